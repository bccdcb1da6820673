/-
  What the program's Reader does to memory: digits, a byte, a number, the rest of a byte, the end.
-/
import Derived.Test.YtnpnaglgllcpfabSb
namespace Go.Proofs.Ytnpnaglgllcpfab
set_option maxRecDepth 100000
open Go.RowKit

/-- The number of some digits behind those of v. -/
def digB (v : Nat) (l : List Bool) : Nat := l.foldl (fun n b => 2 * n + b.toNat) v
theorem digB_snoc (v : Nat) (l : List Bool) (b : Bool) : digB v (l ++ [b]) = 2 * digB v l + b.toNat := by simp [digB]
theorem digB_zero (l : List Bool) : digB 0 l = valB l := rfl
theorem digB_one (l : List Bool) : digB 1 l = 2 ^ l.length + valB l := by
  show l.foldl _ 1 = _
  rw [valB_go]; simp
theorem digB_lt (v : Nat) (l : List Bool) (hv : v ≤ 1) : digB v l < 2 ^ (1 + l.length) := valB_lt_go l v 1 (by omega)

/-- How digits ends. -/
def DigAns (w w' : World) (q : Nat) (a : Option Addr) (l : List UInt8) (cap n v count : Nat) (r : Ending) : Prop :=
  OneKept w w' q ∧ (((bitsIn l).length < n + count ∧ r = .returned (.tuple #[.int .i64 0, .int .i64 4]) ∧ ∃ m, m ≤ (bitsIn l).length ∧ RdrAt w' q a l cap m) ∨
    (n + count ≤ (bitsIn l).length ∧ r = .returned (.tuple #[.int .i64 (digB v (((bitsIn l).drop n).take count)), .int .i64 0]) ∧ RdrAt w' q a l cap (n + count)))

set_option maxHeartbeats 1000000 in
theorem digitsR_calls (q : Nat) (a : Option Addr) (l : List UInt8) (cap n v count : Nat) (w : World) (h : RdrAt w q a l cap n) (hl : l.length ≤ 4096) (hn : n ≤ (bitsIn l).length) (hv : v ≤ 1) (hc : count ≤ 8) :
    Calls Try.prog 87 #[.pointer (some ⟨q, 0, none⟩), .int .i64 v, .int .i64 count] w fun r w' => DigAns w w' q a l cap n v count r := by
  have HR : Hid (RdrAt w q a l cap n) := h
  have hlen := bitsIn_length l
  clear h
  go_enter Try.func87, Try.ntmps87
  go_wp2_with fail
  go_loopw [1, 8] (fun x i wr => ∃ k : Nat, k ≤ count ∧ n + k ≤ (bitsIn l).length ∧ i = .int .i64 k ∧ x = .int .i64 (digB v (((bitsIn l).drop n).take k)) ∧ Hid (RdrAt wr q a l cap (n + k)) ∧ Hid (OneKept w wr q)) (fun _ i _ => count - (intOf i).toNat)
  case atStart => exact ⟨0, by omega, by omega, rfl, rfl, HR.out, OneKept.refl _ _⟩
  case round =>
    obtain ⟨k, hk, hnk, rfl, rfl, hr, ho⟩ := hrel
    have hlt8 : digB v (((bitsIn l).drop n).take k) < 512 := Nat.lt_of_lt_of_le (digB_lt v _ hv) (Nat.pow_le_pow_right (n := 2) (by omega) (show 1 + (((bitsIn l).drop n).take k).length ≤ 9 by rw [List.length_take]; omega))
    by_cases hkc : k < count
    · by_cases hs : n + k < (bitsIn l).length
      · have HV : Hid ((digB v (((bitsIn l).drop n).take (k + 1)) : Int) = (digB v (((bitsIn l).drop n).take k) : Int) * 2 + ((bitsIn l)[n + k].toNat : Int)) := by
          show _ = _
          have e : ((bitsIn l).drop n).take (k + 1) = ((bitsIn l).drop n).take k ++ [(bitsIn l)[n + k]] := by
            rw [List.take_succ_eq_append_getElem (by rw [List.length_drop]; omega), List.getElem_drop]
          rw [e, digB_snoc]
          omega
        have hbt : (bitsIn l)[n + k].toNat ≤ 1 := Bool.toNat_le _
        have HB : Hid _ := bitR_ok q a l cap (n + k) wr hr.out hl hs
        generalize digB v (((bitsIn l).drop n).take k) = y at *
        generalize (bitsIn l)[n + k].toNat = z at *
        go_wp2_with fail
        refine (Calls.mono HB.out ?_)
        rintro e w1 ⟨rfl, hr1, ho1⟩
        have HR1 : Hid (RdrAt w1 q a l cap (n + k + 1)) := hr1
        have HO1 : Hid (OneKept w w1 q) := ho.out.trans ho1
        clear hr1 ho1 HB
        go_wp2
        go_roundw
        case rel => exact ⟨k + 1, by omega, by omega, by go_num, by rw [HV.out], HR1.out, HO1.out⟩
        case measure => simp [intOf]; omega
      · have HB : Hid _ := bitR_short q a l cap (n + k) wr hr.out hl (by omega) (by omega)
        have hs' : (bitsIn l).length < n + count := by omega
        go_wp2_with fail
        refine (Calls.mono HB.out ?_)
        rintro e w1 ⟨rfl, rfl⟩
        clear HB
        go_wp2
        go_ret2
        exact ⟨ho.out, .inl ⟨hs', rfl, n + k, hnk, hr.out⟩⟩
    · have hke : k = count := by omega
      subst hke
      go_wp2
      go_ret2
      exact ⟨ho.out, .inr ⟨hnk, rfl, hr.out⟩⟩

theorem byteR_calls (q : Nat) (a : Option Addr) (l : List UInt8) (cap n : Nat) (w : World) (h : RdrAt w q a l cap n) (hl : l.length ≤ 4096) (hn : n ≤ (bitsIn l).length) :
    Calls Try.prog 81 #[.pointer (some ⟨q, 0, none⟩)] w fun r w' => DigAns w w' q a l cap n 0 8 r := by
  have HR : Hid (RdrAt w q a l cap n) := h
  clear h
  go_enter Try.func81, Try.ntmps81
  go_wp2_with fail
  refine (digitsR_calls q a l cap n 0 8 w HR.out hl hn (by omega) (by omega)).mono ?_
  rintro r w1 ⟨ho, ⟨h1, rfl, h2⟩ | ⟨h1, rfl, h2⟩⟩
  · go_wp2
    go_ret2
    exact ⟨ho, .inl ⟨h1, rfl, h2⟩⟩
  · go_wp2
    go_ret2
    exact ⟨ho, .inr ⟨h1, rfl, h2⟩⟩

/-- How Number ends. -/
def NumRAns (w w' : World) (q : Nat) (a : Option Addr) (l : List UInt8) (cap n : Nat) (e : Int) (r : Ending) : Prop :=
  OneKept w w' q ∧ ((∃ c m, rNum e 0 ((bitsIn l).drop n) = .error c ∧ c ≠ 0 ∧ m ≤ (bitsIn l).length ∧ r = .returned (.tuple #[.int .i64 0, .int .i64 c]) ∧ RdrAt w' q a l cap m) ∨
    ∃ v m, rNum e 0 ((bitsIn l).drop n) = .ok (v, (bitsIn l).drop m) ∧ n < m ∧ m ≤ (bitsIn l).length ∧ 1 ≤ v ∧ v ≤ 127 ∧ r = .returned (.tuple #[.int .i64 v, .int .i64 0]) ∧ RdrAt w' q a l cap m)

/-- What holds at the head of Number's loop: z noughts so far; the bit read last, or that there was none. -/
def NumRRel (w : World) (q : Nat) (a : Option Addr) (l : List UInt8) (cap n : Nat) (e : Int) (z : Nat) (b c : Int) : Prop :=
  (∃ (x : Bool) (m : Nat), b = (x.toNat : Int) ∧ c = 0 ∧ n < m ∧ m ≤ (bitsIn l).length ∧ z ≤ 6 ∧ rNum e 0 ((bitsIn l).drop n) = rNum e z (x :: (bitsIn l).drop m) ∧ RdrAt w q a l cap m) ∨
  (∃ m, c = 4 ∧ m ≤ (bitsIn l).length ∧ rNum e 0 ((bitsIn l).drop n) = .error 4 ∧ RdrAt w q a l cap m)

/-- One bit more at the head of Number's loop. -/
theorem numR_bit (q : Nat) (a : Option Addr) (l : List UInt8) (cap n m z : Nat) (e : Int) (w : World) (h : RdrAt w q a l cap m) (hl : l.length ≤ 4096) (hnm : n ≤ m) (hm : m ≤ (bitsIn l).length) (hz : z ≤ 6) (hr : rNum e 0 ((bitsIn l).drop n) = rNum e z ((bitsIn l).drop m)) :
    Calls Try.prog 88 #[.pointer (some ⟨q, 0, none⟩)] w fun r w' => ∃ b c, r = .returned (.tuple #[.int .i64 b, .int .i64 c]) ∧ NumRRel w' q a l cap n e z b c ∧ OneKept w w' q := by
  have hlen := bitsIn_length l
  rcases Nat.lt_or_ge m (bitsIn l).length with hlt | hge
  · refine (bitR_ok q a l cap m w h hl hlt).mono ?_
    rintro r w1 ⟨rfl, hr1, ho1⟩
    exact ⟨_, _, rfl, .inl ⟨(bitsIn l)[m], m + 1, rfl, rfl, by omega, by omega, hz, by rw [hr, drop_cons _ m hlt], hr1⟩, ho1⟩
  · refine (bitR_short q a l cap m w h hl (by omega) (by omega)).mono ?_
    rintro r w1 ⟨rfl, rfl⟩
    refine ⟨_, _, rfl, .inr ⟨m, rfl, hm, ?_, h⟩, OneKept.refl _ _⟩
    rw [hr, List.drop_of_length_le hge]; rfl

set_option maxHeartbeats 1000000 in
theorem numberR_calls (q : Nat) (a : Option Addr) (l : List UInt8) (cap n : Nat) (e : Int) (w : World) (h : RdrAt w q a l cap n) (hl : l.length ≤ 4096) (hn : n ≤ (bitsIn l).length) (he : e ≠ 0) :
    Calls Try.prog 82 #[.pointer (some ⟨q, 0, none⟩), .int .i64 e] w fun r w' => NumRAns w w' q a l cap n e r := by
  have HST : Hid _ := numR_bit q a l cap n n 0 e w h hl (Nat.le_refl _) hn (by omega) rfl
  have HE : Hid (e ≠ 0) := he
  have hlen := bitsIn_length l
  clear h he
  go_enter Try.func82, Try.ntmps82
  go_wp2_with fail
  refine (Calls.mono HST.out ?_)
  rintro r w1 ⟨b, c, rfl, hr1, ho1⟩
  have HR1 : Hid _ := hr1
  have HO1 : Hid (OneKept w w1 q) := ho1
  clear hr1 ho1 HST
  go_wp2_with fail
  go_loopw [6, 7, 8] (fun z b c wr => ∃ (k : Nat) (x y : Int), z = .int .i64 k ∧ b = .int .i64 x ∧ c = .int .i64 y ∧ Hid (NumRRel wr q a l cap n e k x y) ∧ Hid (OneKept w wr q)) (fun z _ _ _ => 8 - (intOf z).toNat)
  case atStart => exact ⟨0, b, c, rfl, rfl, rfl, HR1, HO1⟩
  case round =>
    clear HR1 HO1
    obtain ⟨z, x, y, rfl, rfl, rfl, hrel, ho⟩ := hrel
    rcases hrel.out with ⟨bt, m, rfl, rfl, hnm, hml, hz6, hnum, hrd⟩ | ⟨m, rfl, hml, hnum, hrd⟩
    · have HRD : Hid (RdrAt wr q a l cap m) := hrd
      have HNUM : Hid _ := hnum
      clear hrel hnum hrd
      cases bt with
      | false =>
        rw [show ((false.toNat : Nat) : Int) = 0 from rfl]
        by_cases h6 : 6 ≤ z
        · have HNE : Hid (rNum e 0 ((bitsIn l).drop n) = .error e) := by show _ = _; rw [HNUM.out]; exact if_pos h6
          go_wp2
          go_ret2
          exact ⟨ho.out, .inl ⟨e, m, HNE.out, HE.out, hml, rfl, HRD.out⟩⟩
        · have HNE : Hid (rNum e 0 ((bitsIn l).drop n) = rNum e (z + 1) ((bitsIn l).drop m)) := by show _ = _; rw [HNUM.out]; exact if_neg h6
          have HNX : Hid _ := numR_bit q a l cap n m (z + 1) e wr HRD.out hl (by omega) hml (by omega) HNE.out
          go_wp2_with fail
          refine (Calls.mono HNX.out ?_)
          rintro r w2 ⟨b2, c2, rfl, hr2, ho2⟩
          have HR2 : Hid _ := hr2
          have HO2 : Hid (OneKept w w2 q) := ho.out.trans ho2
          clear hr2 ho2 HNX
          go_wp2
          go_roundw
          case rel => exact ⟨z + 1, b2, c2, by go_num, rfl, rfl, HR2, HO2⟩
          case measure => simp [intOf]; omega
      | true =>
        rw [show ((true.toNat : Nat) : Int) = 1 from rfl]
        have HD : Hid _ := digitsR_calls q a l cap m 1 z wr HRD.out hl hml (by omega) (by omega)
        go_wp2_with fail
        refine (Calls.mono HD.out ?_)
        rintro r w2 ⟨ho2, ⟨hsh, rfl, m2, hm2, hr2⟩ | ⟨hsh, rfl, hr2⟩⟩
        · have HNE : Hid (rNum e 0 ((bitsIn l).drop n) = .error 4) := by
            show _ = _
            rw [HNUM.out]
            exact if_pos (by rw [List.length_drop]; omega)
          have HR2 : Hid (RdrAt w2 q a l cap m2) := hr2
          have HO2 : Hid (OneKept w w2 q) := ho.out.trans ho2
          clear hr2 ho2 HD
          go_wp2
          go_ret2
          exact ⟨HO2.out, .inl ⟨4, m2, HNE.out, by decide, hm2, rfl, HR2.out⟩⟩
        · have hz : (((bitsIn l).drop m).take z).length = z := by rw [List.length_take, List.length_drop]; omega
          have hdg : digB 1 (((bitsIn l).drop m).take z) = 2 ^ z + valB (((bitsIn l).drop m).take z) := by rw [digB_one, hz]
          have hvl : digB 1 (((bitsIn l).drop m).take z) < 128 := Nat.lt_of_lt_of_le (digB_lt 1 _ (by omega)) (Nat.pow_le_pow_right (n := 2) (by omega) (show 1 + (((bitsIn l).drop m).take z).length ≤ 7 by omega))
          have hp1 : 1 ≤ 2 ^ z := Nat.one_le_two_pow
          have HNE : Hid (rNum e 0 ((bitsIn l).drop n) = .ok (digB 1 (((bitsIn l).drop m).take z), (bitsIn l).drop (m + z))) := by
            show _ = _
            rw [HNUM.out, hdg]
            refine (if_neg (by rw [List.length_drop]; omega)).trans ?_
            rw [List.drop_drop]
          have HR2 : Hid (RdrAt w2 q a l cap (m + z)) := hr2
          have HO2 : Hid (OneKept w w2 q) := ho.out.trans ho2
          have hd1 : 1 ≤ digB 1 (((bitsIn l).drop m).take z) := by omega
          clear hr2 ho2 HD hdg
          generalize digB 1 (((bitsIn l).drop m).take z) = V at *
          go_wp2
          go_ret2
          exact ⟨HO2.out, .inr ⟨V, m + z, HNE.out, by omega, by omega, hd1, by omega, rfl, HR2.out⟩⟩
    · have HRD : Hid (RdrAt wr q a l cap m) := hrd
      have HNUM : Hid _ := hnum
      clear hrel hnum hrd
      go_wp2
      go_ret2
      exact ⟨ho.out, .inl ⟨4, m, HNUM.out, by decide, hml, rfl, HRD.out⟩⟩

/-- How Rest ends. -/
def RestRAns (w w' : World) (q : Nat) (a : Option Addr) (l : List UInt8) (cap n : Nat) (r : Ending) : Prop :=
  OneKept w w' q ∧ ((padB ((bitsIn l).drop n) = false ∧ r = .returned (.int .i64 7) ∧ ∃ m, m ≤ (bitsIn l).length ∧ RdrAt w' q a l cap m) ∨ (padB ((bitsIn l).drop n) = true ∧ r = .returned (.int .i64 0) ∧ byteEnd (bitsIn l) n ≤ (bitsIn l).length ∧ RdrAt w' q a l cap (byteEnd (bitsIn l) n)))

set_option maxHeartbeats 1000000 in
theorem restR_calls (q : Nat) (a : Option Addr) (l : List UInt8) (cap n : Nat) (w : World) (h : RdrAt w q a l cap n) (hl : l.length ≤ 4096) (hn : n ≤ (bitsIn l).length) :
    Calls Try.prog 84 #[.pointer (some ⟨q, 0, none⟩)] w fun r w' => RestRAns w w' q a l cap n r := by
  have HR : Hid (RdrAt w q a l cap n) := h
  have hlen := bitsIn_length l
  have H8 : Hid ((bitsIn l).length % 8 = 0) := by show _ = _; omega
  clear h
  go_enter Try.func84, Try.ntmps84
  go_wp2_with fail
  go_loopg [] ((bitsIn l).length + 1 - n) (fun g wr => ∃ m, m ≤ (bitsIn l).length ∧ g = (bitsIn l).length + 1 - m ∧ Hid (padB ((bitsIn l).drop n) = padB ((bitsIn l).drop m)) ∧ Hid (byteEnd (bitsIn l) n = byteEnd (bitsIn l) m) ∧ Hid (RdrAt wr q a l cap m) ∧ Hid (OneKept w wr q))
  case atStart => exact ⟨n, hn, rfl, rfl, rfl, HR, OneKept.refl _ _⟩
  case round =>
    obtain ⟨m, hm, hg, hpad, hend, hrd, ho⟩ := hrel
    obtain ⟨c0, c1, f1⟩ := hrd.out.cell
    clear c0 f1
    have HG : Hid (gk = (bitsIn l).length + 1 - m) := hg
    clear hg
    by_cases h0 : m % 8 = 0
    · have hz : ((m : Int) % 8 != 0) = false := by simp; omega
      have hfin : Hid (padB ((bitsIn l).drop n) = true ∧ byteEnd (bitsIn l) n = m) := by
        have := H8.out
        refine ⟨?_, ?_⟩
        · rw [hpad.out]; exact padB_full _ (by rw [List.length_drop]; omega)
        · rw [hend.out]; unfold byteEnd; omega
      go_wp2
      go_ret
      refine ⟨ho.out, .inr ⟨hfin.out.1, rfl, ?_, ?_⟩⟩
      · rw [hfin.out.2]; exact hm
      · rw [hfin.out.2]; exact hrd.out
    · have hml : m < (bitsIn l).length := by have := H8.out; omega
      have hz : ((m : Int) % 8 != 0) = true := by simp; omega
      have hp : Hid (padB ((bitsIn l).drop m) = (!(bitsIn l)[m] && padB ((bitsIn l).drop (m + 1)))) := by
        show _ = _
        rw [drop_cons _ m hml]
        refine padB_cons _ _ ?_
        have := H8.out
        rw [List.length_drop]; omega
      have he : Hid (byteEnd (bitsIn l) m = byteEnd (bitsIn l) (m + 1)) := by show _ = _; have := H8.out; unfold byteEnd; omega
      have HB : Hid _ := bitR_ok q a l cap m wr hrd.out hl hml
      go_wp2_with fail
      refine (Calls.mono HB.out ?_)
      rintro r w1 ⟨rfl, hr1, ho1⟩
      have HR1 : Hid (RdrAt w1 q a l cap (m + 1)) := hr1
      have HO1 : Hid (OneKept w w1 q) := ho.out.trans ho1
      clear hr1 ho1 HB
      cases hb : (bitsIn l)[m] with
      | false =>
        rw [show ((false.toNat : Nat) : Int) = 0 from rfl]
        have HP2 : Hid (padB ((bitsIn l).drop n) = padB ((bitsIn l).drop (m + 1))) := by show _ = _; rw [hpad.out, hp.out, hb]; rfl
        clear hb
        go_wp2
        go_roundg ((bitsIn l).length + 1 - (m + 1))
        case measure => have := HG.out; omega
        case rel => exact ⟨m + 1, by omega, rfl, HP2, by show _ = _; rw [hend.out, he.out], HR1, HO1⟩
      | true =>
        rw [show ((true.toNat : Nat) : Int) = 1 from rfl]
        have HP2 : Hid (padB ((bitsIn l).drop n) = false) := by show _ = _; rw [hpad.out, hp.out, hb]; rfl
        clear hb
        go_wp2
        go_ret
        exact ⟨HO1.out, .inl ⟨HP2.out, rfl, m + 1, by omega, HR1.out⟩⟩

theorem bytesReadR_calls (q : Nat) (a : Option Addr) (l : List UInt8) (cap n : Nat) (w : World) (h : RdrAt w q a l cap n) (hl : l.length ≤ 4096) (hn : n ≤ (bitsIn l).length) :
    Calls Try.prog 71 #[.pointer (some ⟨q, 0, none⟩)] w fun r w' => r = .returned (.int .i64 ((n : Int) / 8)) ∧ w' = w := by
  obtain ⟨c0, c1, f1⟩ := h.cell
  have hlen := bitsIn_length l
  have hnb : n < 40000 := by omega
  clear h f1
  go_enter Try.func71, Try.ntmps71
  go_wp2
  go_ret
  exact ⟨rfl, rfl⟩

theorem atEndR_calls (q : Nat) (a : Option Addr) (l : List UInt8) (cap n : Nat) (w : World) (h : RdrAt w q a l cap n) (hl : l.length ≤ 4096) (hn : n ≤ (bitsIn l).length) (h8 : n % 8 = 0) :
    Calls Try.prog 72 #[.pointer (some ⟨q, 0, none⟩)] w fun r w' => r = .returned (.bool (!decide (n < (bitsIn l).length))) ∧ ∃ nd, w' = w.drewN nd := by
  obtain ⟨c0, c1, f1⟩ := h.cell
  have HR : Hid (RdrAt w q a l cap n) := h
  have hlen := bitsIn_length l
  have hnb : n < 40000 := by omega
  clear h f1
  by_cases hlt : n < (bitsIn l).length
  · have HD : Hid (decide (n < (bitsIn l).length) = true) := decide_eq_true hlt
    have hd : (n : Int) / 8 < (l.length : Int) := by omega
    go_enter Try.func72, Try.ntmps72
    go_wp2_with fail
    go_quiet ((go_at_call 71; exact Calls.quiet_of_same (bytesReadR_calls q a l cap n _ (by exact RdrAt.below HR.out (below_drewN (Below.refl _ _) _)) hl hn)))
    go_wp2
    go_ret
    exact ⟨by rw [HD.out]; simp; omega, _, rfl⟩
  · have HD : Hid (decide (n < (bitsIn l).length) = false) := decide_eq_false hlt
    have hd : (l.length : Int) ≤ (n : Int) / 8 := by omega
    go_enter Try.func72, Try.ntmps72
    go_wp2_with fail
    go_quiet ((go_at_call 71; exact Calls.quiet_of_same (bytesReadR_calls q a l cap n _ (by exact RdrAt.below HR.out (below_drewN (Below.refl _ _) _)) hl hn)))
    go_wp2
    go_ret
    exact ⟨by rw [HD.out]; simp, _, rfl⟩

theorem newReader_calls (a : Option Addr) (l : List UInt8) (cap : Nat) (w : World) (hb : BytesAt w a l) :
    Calls Try.prog 69 #[.slice a l.length cap] w fun r w' => r = .returned (.pointer (some ⟨w.heap.size, 0, none⟩)) ∧ Below w.heap.size w w' ∧ w'.heap.size = w.heap.size + 1 ∧ RdrAt w' w.heap.size a l cap 0 := by
  have HB : Hid (BytesAt w a l) := hb
  clear hb
  go_enter Try.func69, Try.ntmps69
  go_wp2
  go_ret
  refine ⟨rfl, (Below.refl _ _).alloc (Nat.le_refl _) _, by simp, heap_alloc_new w _, bytesAt_below HB.out ((Below.refl _ _).alloc (Nat.le_refl _) _), fun hl b off ha => ?_⟩
  rcases HB.out with h1 | ⟨b', off', h1, h2⟩
  · rw [h1] at hl; simp at hl
  · rw [ha] at h1
    simp at h1
    have hlt : b' < w.heap.size := World.block_lt_of_cell? w _ (h2 0 hl)
    omega
end Go.Proofs.Ytnpnaglgllcpfab
