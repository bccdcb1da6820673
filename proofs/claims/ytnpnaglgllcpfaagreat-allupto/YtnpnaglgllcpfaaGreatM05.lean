/-
  Lemmas for the law All: Sb2, Sb3.
-/
import Derived.Test.YtnpnaglgllcpfaaGreatM04
/- What the program's Reader does to memory: digits, a byte, a number, the rest of a byte, the end. -/
namespace Go.Proofs.YtnpnaglgllcpfaaGreat
set_option maxRecDepth 100000
open Go.RowKit

/-- The number of some digits behind those of v. -/
def digB (v : Nat) (l : List Bool) : Nat := l.foldl (fun n b => 2 * n + b.toNat) v
theorem digB_snoc (v : Nat) (l : List Bool) (b : Bool) : digB v (l ++ [b]) = 2 * digB v l + b.toNat := by simp [digB]
theorem digB_zero (l : List Bool) : digB 0 l = valB l := rfl
theorem digB_one (l : List Bool) : digB 1 l = 2 ^ l.length + valB l := by
  show l.foldl _ 1 = _
  rw [valB_go]; simp
theorem digB_lt (v : Nat) (l : List Bool) (hv : v ≤ 1) : digB v l < 2 ^ (1 + l.length) := valB_lt_go l v 1 (by omega)

/-- How digits ends. -/
def DigAns (w w' : World) (q : Nat) (a : Option Addr) (l : List UInt8) (cap n v count : Nat) (r : Ending) : Prop :=
  OneKept w w' q ∧ (((bitsIn l).length < n + count ∧ r = .returned (.tuple #[.int .i64 0, .int .i64 4]) ∧ ∃ m, m ≤ (bitsIn l).length ∧ RdrAt w' q a l cap m) ∨
    (n + count ≤ (bitsIn l).length ∧ r = .returned (.tuple #[.int .i64 (digB v (((bitsIn l).drop n).take count)), .int .i64 0]) ∧ RdrAt w' q a l cap (n + count)))

set_option maxHeartbeats 1000000 in
theorem digitsR_calls (q : Nat) (a : Option Addr) (l : List UInt8) (cap n v count : Nat) (w : World) (h : RdrAt w q a l cap n) (hl : l.length ≤ 4096) (hn : n ≤ (bitsIn l).length) (hv : v ≤ 1) (hc : count ≤ 8) :
    Calls Tryz.prog 128 #[.pointer (some ⟨q, 0, none⟩), .int .i64 v, .int .i64 count] w fun r w' => DigAns w w' q a l cap n v count r := by
  have HR : Hid (RdrAt w q a l cap n) := h
  have hlen := bitsIn_length l
  clear h
  go_enter Tryz.func128, Tryz.ntmps128
  go_wp2_with fail
  go_loopw [1, 8] (fun x i wr => ∃ k : Nat, k ≤ count ∧ n + k ≤ (bitsIn l).length ∧ i = .int .i64 k ∧ x = .int .i64 (digB v (((bitsIn l).drop n).take k)) ∧ Hid (RdrAt wr q a l cap (n + k)) ∧ Hid (OneKept w wr q)) (fun _ i _ => count - (intOf i).toNat)
  case atStart => exact ⟨0, by omega, by omega, rfl, rfl, HR.out, OneKept.refl _ _⟩
  case round =>
    obtain ⟨k, hk, hnk, rfl, rfl, hr, ho⟩ := hrel
    have hlt8 : digB v (((bitsIn l).drop n).take k) < 512 := Nat.lt_of_lt_of_le (digB_lt v _ hv) (Nat.pow_le_pow_right (n := 2) (by omega) (show 1 + (((bitsIn l).drop n).take k).length ≤ 9 by rw [List.length_take]; omega))
    by_cases hkc : k < count
    · by_cases hs : n + k < (bitsIn l).length
      · have HV : Hid ((digB v (((bitsIn l).drop n).take (k + 1)) : Int) = (digB v (((bitsIn l).drop n).take k) : Int) * 2 + ((bitsIn l)[n + k].toNat : Int)) := by
          show _ = _
          have e : ((bitsIn l).drop n).take (k + 1) = ((bitsIn l).drop n).take k ++ [(bitsIn l)[n + k]] := by
            rw [List.take_succ_eq_append_getElem (by rw [List.length_drop]; omega), List.getElem_drop]
          rw [e, digB_snoc]
          omega
        have hbt : (bitsIn l)[n + k].toNat ≤ 1 := Bool.toNat_le _
        have HB : Hid _ := bitR_ok q a l cap (n + k) wr hr.out hl hs
        generalize digB v (((bitsIn l).drop n).take k) = y at *
        generalize (bitsIn l)[n + k].toNat = z at *
        go_wp2_with fail
        refine (Calls.mono HB.out ?_)
        rintro e w1 ⟨rfl, hr1, ho1⟩
        have HR1 : Hid (RdrAt w1 q a l cap (n + k + 1)) := hr1
        have HO1 : Hid (OneKept w w1 q) := ho.out.trans ho1
        clear hr1 ho1 HB
        go_wp2
        go_roundw
        case rel => exact ⟨k + 1, by omega, by omega, by go_num, by rw [HV.out], HR1.out, HO1.out⟩
        case measure => simp [intOf]; omega
      · have HB : Hid _ := bitR_short q a l cap (n + k) wr hr.out hl (by omega) (by omega)
        have hs' : (bitsIn l).length < n + count := by omega
        go_wp2_with fail
        refine (Calls.mono HB.out ?_)
        rintro e w1 ⟨rfl, rfl⟩
        clear HB
        go_wp2
        go_ret2
        exact ⟨ho.out, .inl ⟨hs', rfl, n + k, hnk, hr.out⟩⟩
    · have hke : k = count := by omega
      subst hke
      go_wp2
      go_ret2
      exact ⟨ho.out, .inr ⟨hnk, rfl, hr.out⟩⟩

theorem byteR_calls (q : Nat) (a : Option Addr) (l : List UInt8) (cap n : Nat) (w : World) (h : RdrAt w q a l cap n) (hl : l.length ≤ 4096) (hn : n ≤ (bitsIn l).length) :
    Calls Tryz.prog 121 #[.pointer (some ⟨q, 0, none⟩)] w fun r w' => DigAns w w' q a l cap n 0 8 r := by
  have HR : Hid (RdrAt w q a l cap n) := h
  clear h
  go_enter Tryz.func121, Tryz.ntmps121
  go_wp2_with fail
  refine (digitsR_calls q a l cap n 0 8 w HR.out hl hn (by omega) (by omega)).mono ?_
  rintro r w1 ⟨ho, ⟨h1, rfl, h2⟩ | ⟨h1, rfl, h2⟩⟩
  · go_wp2
    go_ret2
    exact ⟨ho, .inl ⟨h1, rfl, h2⟩⟩
  · go_wp2
    go_ret2
    exact ⟨ho, .inr ⟨h1, rfl, h2⟩⟩

/-- How Number ends. -/
def NumRAns (w w' : World) (q : Nat) (a : Option Addr) (l : List UInt8) (cap n : Nat) (e : Int) (r : Ending) : Prop :=
  OneKept w w' q ∧ ((∃ c m, rNum e 0 ((bitsIn l).drop n) = .error c ∧ c ≠ 0 ∧ m ≤ (bitsIn l).length ∧ r = .returned (.tuple #[.int .i64 0, .int .i64 c]) ∧ RdrAt w' q a l cap m) ∨
    ∃ v m, rNum e 0 ((bitsIn l).drop n) = .ok (v, (bitsIn l).drop m) ∧ n < m ∧ m ≤ (bitsIn l).length ∧ 1 ≤ v ∧ v ≤ 127 ∧ r = .returned (.tuple #[.int .i64 v, .int .i64 0]) ∧ RdrAt w' q a l cap m)

/-- What holds at the head of Number's loop: z noughts so far; the bit read last, or that there was none. -/
def NumRRel (w : World) (q : Nat) (a : Option Addr) (l : List UInt8) (cap n : Nat) (e : Int) (z : Nat) (b c : Int) : Prop :=
  (∃ (x : Bool) (m : Nat), b = (x.toNat : Int) ∧ c = 0 ∧ n < m ∧ m ≤ (bitsIn l).length ∧ z ≤ 6 ∧ rNum e 0 ((bitsIn l).drop n) = rNum e z (x :: (bitsIn l).drop m) ∧ RdrAt w q a l cap m) ∨
  (∃ m, c = 4 ∧ m ≤ (bitsIn l).length ∧ rNum e 0 ((bitsIn l).drop n) = .error 4 ∧ RdrAt w q a l cap m)

/-- One bit more at the head of Number's loop. -/
theorem numR_bit (q : Nat) (a : Option Addr) (l : List UInt8) (cap n m z : Nat) (e : Int) (w : World) (h : RdrAt w q a l cap m) (hl : l.length ≤ 4096) (hnm : n ≤ m) (hm : m ≤ (bitsIn l).length) (hz : z ≤ 6) (hr : rNum e 0 ((bitsIn l).drop n) = rNum e z ((bitsIn l).drop m)) :
    Calls Tryz.prog 129 #[.pointer (some ⟨q, 0, none⟩)] w fun r w' => ∃ b c, r = .returned (.tuple #[.int .i64 b, .int .i64 c]) ∧ NumRRel w' q a l cap n e z b c ∧ OneKept w w' q := by
  have hlen := bitsIn_length l
  rcases Nat.lt_or_ge m (bitsIn l).length with hlt | hge
  · refine (bitR_ok q a l cap m w h hl hlt).mono ?_
    rintro r w1 ⟨rfl, hr1, ho1⟩
    exact ⟨_, _, rfl, .inl ⟨(bitsIn l)[m], m + 1, rfl, rfl, by omega, by omega, hz, by rw [hr, drop_cons _ m hlt], hr1⟩, ho1⟩
  · refine (bitR_short q a l cap m w h hl (by omega) (by omega)).mono ?_
    rintro r w1 ⟨rfl, rfl⟩
    refine ⟨_, _, rfl, .inr ⟨m, rfl, hm, ?_, h⟩, OneKept.refl _ _⟩
    rw [hr, List.drop_of_length_le hge]; rfl

set_option maxHeartbeats 1000000 in
theorem numberR_calls (q : Nat) (a : Option Addr) (l : List UInt8) (cap n : Nat) (e : Int) (w : World) (h : RdrAt w q a l cap n) (hl : l.length ≤ 4096) (hn : n ≤ (bitsIn l).length) (he : e ≠ 0) :
    Calls Tryz.prog 122 #[.pointer (some ⟨q, 0, none⟩), .int .i64 e] w fun r w' => NumRAns w w' q a l cap n e r := by
  have HST : Hid _ := numR_bit q a l cap n n 0 e w h hl (Nat.le_refl _) hn (by omega) rfl
  have HE : Hid (e ≠ 0) := he
  have hlen := bitsIn_length l
  clear h he
  go_enter Tryz.func122, Tryz.ntmps122
  go_wp2_with fail
  refine (Calls.mono HST.out ?_)
  rintro r w1 ⟨b, c, rfl, hr1, ho1⟩
  have HR1 : Hid _ := hr1
  have HO1 : Hid (OneKept w w1 q) := ho1
  clear hr1 ho1 HST
  go_wp2_with fail
  go_loopw [6, 7, 8] (fun z b c wr => ∃ (k : Nat) (x y : Int), z = .int .i64 k ∧ b = .int .i64 x ∧ c = .int .i64 y ∧ Hid (NumRRel wr q a l cap n e k x y) ∧ Hid (OneKept w wr q)) (fun z _ _ _ => 8 - (intOf z).toNat)
  case atStart => exact ⟨0, b, c, rfl, rfl, rfl, HR1, HO1⟩
  case round =>
    clear HR1 HO1
    obtain ⟨z, x, y, rfl, rfl, rfl, hrel, ho⟩ := hrel
    rcases hrel.out with ⟨bt, m, rfl, rfl, hnm, hml, hz6, hnum, hrd⟩ | ⟨m, rfl, hml, hnum, hrd⟩
    · have HRD : Hid (RdrAt wr q a l cap m) := hrd
      have HNUM : Hid _ := hnum
      clear hrel hnum hrd
      cases bt with
      | false =>
        rw [show ((false.toNat : Nat) : Int) = 0 from rfl]
        by_cases h6 : 6 ≤ z
        · have HNE : Hid (rNum e 0 ((bitsIn l).drop n) = .error e) := by show _ = _; rw [HNUM.out]; exact if_pos h6
          go_wp2
          go_ret2
          exact ⟨ho.out, .inl ⟨e, m, HNE.out, HE.out, hml, rfl, HRD.out⟩⟩
        · have HNE : Hid (rNum e 0 ((bitsIn l).drop n) = rNum e (z + 1) ((bitsIn l).drop m)) := by show _ = _; rw [HNUM.out]; exact if_neg h6
          have HNX : Hid _ := numR_bit q a l cap n m (z + 1) e wr HRD.out hl (by omega) hml (by omega) HNE.out
          go_wp2_with fail
          refine (Calls.mono HNX.out ?_)
          rintro r w2 ⟨b2, c2, rfl, hr2, ho2⟩
          have HR2 : Hid _ := hr2
          have HO2 : Hid (OneKept w w2 q) := ho.out.trans ho2
          clear hr2 ho2 HNX
          go_wp2
          go_roundw
          case rel => exact ⟨z + 1, b2, c2, by go_num, rfl, rfl, HR2, HO2⟩
          case measure => simp [intOf]; omega
      | true =>
        rw [show ((true.toNat : Nat) : Int) = 1 from rfl]
        have HD : Hid _ := digitsR_calls q a l cap m 1 z wr HRD.out hl hml (by omega) (by omega)
        go_wp2_with fail
        refine (Calls.mono HD.out ?_)
        rintro r w2 ⟨ho2, ⟨hsh, rfl, m2, hm2, hr2⟩ | ⟨hsh, rfl, hr2⟩⟩
        · have HNE : Hid (rNum e 0 ((bitsIn l).drop n) = .error 4) := by
            show _ = _
            rw [HNUM.out]
            exact if_pos (by rw [List.length_drop]; omega)
          have HR2 : Hid (RdrAt w2 q a l cap m2) := hr2
          have HO2 : Hid (OneKept w w2 q) := ho.out.trans ho2
          clear hr2 ho2 HD
          go_wp2
          go_ret2
          exact ⟨HO2.out, .inl ⟨4, m2, HNE.out, by decide, hm2, rfl, HR2.out⟩⟩
        · have hz : (((bitsIn l).drop m).take z).length = z := by rw [List.length_take, List.length_drop]; omega
          have hdg : digB 1 (((bitsIn l).drop m).take z) = 2 ^ z + valB (((bitsIn l).drop m).take z) := by rw [digB_one, hz]
          have hvl : digB 1 (((bitsIn l).drop m).take z) < 128 := Nat.lt_of_lt_of_le (digB_lt 1 _ (by omega)) (Nat.pow_le_pow_right (n := 2) (by omega) (show 1 + (((bitsIn l).drop m).take z).length ≤ 7 by omega))
          have hp1 : 1 ≤ 2 ^ z := Nat.one_le_two_pow
          have HNE : Hid (rNum e 0 ((bitsIn l).drop n) = .ok (digB 1 (((bitsIn l).drop m).take z), (bitsIn l).drop (m + z))) := by
            show _ = _
            rw [HNUM.out, hdg]
            refine (if_neg (by rw [List.length_drop]; omega)).trans ?_
            rw [List.drop_drop]
          have HR2 : Hid (RdrAt w2 q a l cap (m + z)) := hr2
          have HO2 : Hid (OneKept w w2 q) := ho.out.trans ho2
          have hd1 : 1 ≤ digB 1 (((bitsIn l).drop m).take z) := by omega
          clear hr2 ho2 HD hdg
          generalize digB 1 (((bitsIn l).drop m).take z) = V at *
          go_wp2
          go_ret2
          exact ⟨HO2.out, .inr ⟨V, m + z, HNE.out, by omega, by omega, hd1, by omega, rfl, HR2.out⟩⟩
    · have HRD : Hid (RdrAt wr q a l cap m) := hrd
      have HNUM : Hid _ := hnum
      clear hrel hnum hrd
      go_wp2
      go_ret2
      exact ⟨ho.out, .inl ⟨4, m, HNUM.out, by decide, hml, rfl, HRD.out⟩⟩

/-- How Rest ends. -/
def RestRAns (w w' : World) (q : Nat) (a : Option Addr) (l : List UInt8) (cap n : Nat) (r : Ending) : Prop :=
  OneKept w w' q ∧ ((padB ((bitsIn l).drop n) = false ∧ r = .returned (.int .i64 7) ∧ ∃ m, m ≤ (bitsIn l).length ∧ RdrAt w' q a l cap m) ∨ (padB ((bitsIn l).drop n) = true ∧ r = .returned (.int .i64 0) ∧ byteEnd (bitsIn l) n ≤ (bitsIn l).length ∧ RdrAt w' q a l cap (byteEnd (bitsIn l) n)))

set_option maxHeartbeats 1000000 in
theorem restR_calls (q : Nat) (a : Option Addr) (l : List UInt8) (cap n : Nat) (w : World) (h : RdrAt w q a l cap n) (hl : l.length ≤ 4096) (hn : n ≤ (bitsIn l).length) :
    Calls Tryz.prog 124 #[.pointer (some ⟨q, 0, none⟩)] w fun r w' => RestRAns w w' q a l cap n r := by
  have HR : Hid (RdrAt w q a l cap n) := h
  have hlen := bitsIn_length l
  have H8 : Hid ((bitsIn l).length % 8 = 0) := by show _ = _; omega
  clear h
  go_enter Tryz.func124, Tryz.ntmps124
  go_wp2_with fail
  go_loopg [] ((bitsIn l).length + 1 - n) (fun g wr => ∃ m, m ≤ (bitsIn l).length ∧ g = (bitsIn l).length + 1 - m ∧ Hid (padB ((bitsIn l).drop n) = padB ((bitsIn l).drop m)) ∧ Hid (byteEnd (bitsIn l) n = byteEnd (bitsIn l) m) ∧ Hid (RdrAt wr q a l cap m) ∧ Hid (OneKept w wr q))
  case atStart => exact ⟨n, hn, rfl, rfl, rfl, HR, OneKept.refl _ _⟩
  case round =>
    obtain ⟨m, hm, hg, hpad, hend, hrd, ho⟩ := hrel
    obtain ⟨c0, c1, f1⟩ := hrd.out.cell
    clear c0 f1
    have HG : Hid (gk = (bitsIn l).length + 1 - m) := hg
    clear hg
    by_cases h0 : m % 8 = 0
    · have hz : ((m : Int) % 8 != 0) = false := by simp; omega
      have hfin : Hid (padB ((bitsIn l).drop n) = true ∧ byteEnd (bitsIn l) n = m) := by
        have := H8.out
        refine ⟨?_, ?_⟩
        · rw [hpad.out]; exact padB_full _ (by rw [List.length_drop]; omega)
        · rw [hend.out]; unfold byteEnd; omega
      go_wp2
      go_ret
      refine ⟨ho.out, .inr ⟨hfin.out.1, rfl, ?_, ?_⟩⟩
      · rw [hfin.out.2]; exact hm
      · rw [hfin.out.2]; exact hrd.out
    · have hml : m < (bitsIn l).length := by have := H8.out; omega
      have hz : ((m : Int) % 8 != 0) = true := by simp; omega
      have hp : Hid (padB ((bitsIn l).drop m) = (!(bitsIn l)[m] && padB ((bitsIn l).drop (m + 1)))) := by
        show _ = _
        rw [drop_cons _ m hml]
        refine padB_cons _ _ ?_
        have := H8.out
        rw [List.length_drop]; omega
      have he : Hid (byteEnd (bitsIn l) m = byteEnd (bitsIn l) (m + 1)) := by show _ = _; have := H8.out; unfold byteEnd; omega
      have HB : Hid _ := bitR_ok q a l cap m wr hrd.out hl hml
      go_wp2_with fail
      refine (Calls.mono HB.out ?_)
      rintro r w1 ⟨rfl, hr1, ho1⟩
      have HR1 : Hid (RdrAt w1 q a l cap (m + 1)) := hr1
      have HO1 : Hid (OneKept w w1 q) := ho.out.trans ho1
      clear hr1 ho1 HB
      cases hb : (bitsIn l)[m] with
      | false =>
        rw [show ((false.toNat : Nat) : Int) = 0 from rfl]
        have HP2 : Hid (padB ((bitsIn l).drop n) = padB ((bitsIn l).drop (m + 1))) := by show _ = _; rw [hpad.out, hp.out, hb]; rfl
        clear hb
        go_wp2
        go_roundg ((bitsIn l).length + 1 - (m + 1))
        case measure => have := HG.out; omega
        case rel => exact ⟨m + 1, by omega, rfl, HP2, by show _ = _; rw [hend.out, he.out], HR1, HO1⟩
      | true =>
        rw [show ((true.toNat : Nat) : Int) = 1 from rfl]
        have HP2 : Hid (padB ((bitsIn l).drop n) = false) := by show _ = _; rw [hpad.out, hp.out, hb]; rfl
        clear hb
        go_wp2
        go_ret
        exact ⟨HO1.out, .inl ⟨HP2.out, rfl, m + 1, by omega, HR1.out⟩⟩

theorem bytesReadR_calls (q : Nat) (a : Option Addr) (l : List UInt8) (cap n : Nat) (w : World) (h : RdrAt w q a l cap n) (hl : l.length ≤ 4096) (hn : n ≤ (bitsIn l).length) :
    Calls Tryz.prog 101 #[.pointer (some ⟨q, 0, none⟩)] w fun r w' => r = .returned (.int .i64 ((n : Int) / 8)) ∧ w' = w := by
  obtain ⟨c0, c1, f1⟩ := h.cell
  have hlen := bitsIn_length l
  have hnb : n < 40000 := by omega
  clear h f1
  go_enter Tryz.func101, Tryz.ntmps101
  go_wp2
  go_ret
  exact ⟨rfl, rfl⟩

theorem atEndR_calls (q : Nat) (a : Option Addr) (l : List UInt8) (cap n : Nat) (w : World) (h : RdrAt w q a l cap n) (hl : l.length ≤ 4096) (hn : n ≤ (bitsIn l).length) (h8 : n % 8 = 0) :
    Calls Tryz.prog 102 #[.pointer (some ⟨q, 0, none⟩)] w fun r w' => r = .returned (.bool (!decide (n < (bitsIn l).length))) ∧ ∃ nd, w' = w.drewN nd := by
  obtain ⟨c0, c1, f1⟩ := h.cell
  have HR : Hid (RdrAt w q a l cap n) := h
  have hlen := bitsIn_length l
  have hnb : n < 40000 := by omega
  clear h f1
  by_cases hlt : n < (bitsIn l).length
  · have HD : Hid (decide (n < (bitsIn l).length) = true) := decide_eq_true hlt
    have hd : (n : Int) / 8 < (l.length : Int) := by omega
    go_enter Tryz.func102, Tryz.ntmps102
    go_wp2_with fail
    go_quiet ((go_at_call 101; exact Calls.quiet_of_same (bytesReadR_calls q a l cap n _ (by exact RdrAt.below HR.out (below_drewN (Below.refl _ _) _)) hl hn)))
    go_wp2
    go_ret
    exact ⟨by rw [HD.out]; simp; omega, _, rfl⟩
  · have HD : Hid (decide (n < (bitsIn l).length) = false) := decide_eq_false hlt
    have hd : (l.length : Int) ≤ (n : Int) / 8 := by omega
    go_enter Tryz.func102, Tryz.ntmps102
    go_wp2_with fail
    go_quiet ((go_at_call 101; exact Calls.quiet_of_same (bytesReadR_calls q a l cap n _ (by exact RdrAt.below HR.out (below_drewN (Below.refl _ _) _)) hl hn)))
    go_wp2
    go_ret
    exact ⟨by rw [HD.out]; simp, _, rfl⟩

theorem newReader_calls (a : Option Addr) (l : List UInt8) (cap : Nat) (w : World) (hb : BytesAt w a l) :
    Calls Tryz.prog 99 #[.slice a l.length cap] w fun r w' => r = .returned (.pointer (some ⟨w.heap.size, 0, none⟩)) ∧ Below w.heap.size w w' ∧ w'.heap.size = w.heap.size + 1 ∧ RdrAt w' w.heap.size a l cap 0 := by
  have HB : Hid (BytesAt w a l) := hb
  clear hb
  go_enter Tryz.func99, Tryz.ntmps99
  go_wp2
  go_ret
  refine ⟨rfl, (Below.refl _ _).alloc (Nat.le_refl _) _, by simp, heap_alloc_new w _, bytesAt_below HB.out ((Below.refl _ _).alloc (Nat.le_refl _) _), fun hl b off ha => ?_⟩
  rcases HB.out with h1 | ⟨b', off', h1, h2⟩
  · rw [h1] at hl; simp at hl
  · rw [ha] at h1
    simp at h1
    have hlt : b' < w.heap.size := World.block_lt_of_cell? w _ (h2 0 hl)
    omega
end Go.Proofs.YtnpnaglgllcpfaaGreat

/- What the program's reader of tokens does to memory: one token. -/
namespace Go.Proofs.YtnpnaglgllcpfaaGreat
set_option maxRecDepth 100000
open Go.RowKit

/-- How a reader of one token ends, whatever it was to read. -/
def TokRAns (w w' : World) (q : Nat) (a : Option Addr) (l : List UInt8) (cap n : Nat) (x : Except Int (Tok × List Bool)) (r : Ending) : Prop :=
  OneKept w w' q ∧ ((∃ c m, x = .error c ∧ c ≠ 0 ∧ m ≤ (bitsIn l).length ∧ r = .returned (.tuple #[.agg #[.int .i64 0, .int .i64 0, .int .i64 0], .int .i64 c]) ∧ RdrAt w' q a l cap m) ∨
    ∃ (t : Tok) (m : Nat), x = .ok (t, (bitsIn l).drop m) ∧ n < m ∧ m ≤ (bitsIn l).length ∧ r = .returned (.tuple #[.agg #[.int .i64 t.len, .int .i64 t.dist, .int .i64 t.byte], .int .i64 0]) ∧ RdrAt w' q a l cap m)

/-- What a box for a struct result holds at the end, and what was there. -/
theorem boxR_fin {w w3 : World} {q : Nat} {o : Obj} {u v b : Value} {t : TypeId} {a : Option Addr} {l : List UInt8} {cap n m : Nat} (h0 : RdrAt w q a l cap n) (hk : OneKept (w.alloc o) w3 q) (hx : w3.heap[w.heap.size]? = some (.cells #[u, v, b] t (0, 0))) (h3 : RdrAt w3 q a l cap m) (x y z : Value) :
    ((((w3.setCell ⟨w.heap.size, 0, none⟩ x).setCell ⟨w.heap.size, 1, none⟩ y).setCell ⟨w.heap.size, 2, none⟩ z).cell? ⟨w.heap.size, 0, none⟩ = some x ∧
     (((w3.setCell ⟨w.heap.size, 0, none⟩ x).setCell ⟨w.heap.size, 1, none⟩ y).setCell ⟨w.heap.size, 2, none⟩ z).cell? ⟨w.heap.size, 1, none⟩ = some y ∧
     (((w3.setCell ⟨w.heap.size, 0, none⟩ x).setCell ⟨w.heap.size, 1, none⟩ y).setCell ⟨w.heap.size, 2, none⟩ z).cell? ⟨w.heap.size, 2, none⟩ = some z) ∧
    OneKept w (((w3.setCell ⟨w.heap.size, 0, none⟩ x).setCell ⟨w.heap.size, 1, none⟩ y).setCell ⟨w.heap.size, 2, none⟩ z) q ∧
    RdrAt (((w3.setCell ⟨w.heap.size, 0, none⟩ x).setCell ⟨w.heap.size, 1, none⟩ y).setCell ⟨w.heap.size, 2, none⟩ z) q a l cap m := by
  have hb := set_block (i := 2) (set_block (i := 1) (set_block (i := 0) hx x) y) z
  have hq := h0.lt
  have hkk : OneKept w (((w3.setCell ⟨w.heap.size, 0, none⟩ x).setCell ⟨w.heap.size, 1, none⟩ y).setCell ⟨w.heap.size, 2, none⟩ z) q := by
    refine ⟨hk.os, hk.tape, hk.output, ?_, fun k h1 h2 => ?_⟩
    · have := hk.size
      simp only [set_size]
      simp at this
      omega
    · rw [set_other _ (by omega), set_other _ (by omega), set_other _ (by omega), hk.heap k (by simp; omega) h2]
      exact Below.heap_alloc w o k h1
  refine ⟨?_, hkk, h0.kept hkk ?_⟩
  · simp [World.cell?, hb]
  · rw [set_other _ (by omega), set_other _ (by omega), set_other _ (by omega)]
    exact h3.block

set_option maxHeartbeats 1000000 in
theorem readLiteral_calls (q : Nat) (a : Option Addr) (l : List UInt8) (cap n : Nat) (w : World) (X : Except Int (Tok × List Bool)) (h : RdrAt w q a l cap n) (hl : l.length ≤ 4096) (hn : n ≤ (bitsIn l).length)
    (hX1 : (bitsIn l).length < n + 8 → X = .error 4) (hX2 : n + 8 ≤ (bitsIn l).length → X = .ok (⟨1, 0, valB (((bitsIn l).drop n).take 8)⟩, (bitsIn l).drop (n + 8))) :
    Calls Tryz.prog 132 #[.pointer (some ⟨q, 0, none⟩)] w fun r w' => TokRAns w w' q a l cap n X r := by
  have HX1 : Hid _ := hX1
  have HX2 : Hid _ := hX2
  clear hX1 hX2
  have HR0 : Hid (RdrAt w q a l cap n) := h
  have hq := h.lt
  have hqn : w.heap.size ≠ q := by omega
  have HR : Hid (RdrAt (w.alloc (.cells #[.int .i64 0, .int .i64 0, .int .i64 0] 42)) q a l cap n) := h.below ((Below.refl _ _).alloc (Nat.le_refl _) _)
  clear h
  go_enter Tryz.func132, Tryz.ntmps132
  go_wp2_with fail
  refine (byteR_calls q a l cap n _ HR.out hl hn).mono ?_
  rintro r w1 ⟨ho, ⟨h1, rfl, m, hm, hr1⟩ | ⟨h1, rfl, hr1⟩⟩
  · have HX : Hid (X = .error 4) := HX1.out h1
    clear HX1 HX2
    have HO : Hid (OneKept _ w1 q) := ho
    have HR1 : Hid (RdrAt w1 q a l cap m) := hr1
    clear ho hr1
    have HX1 := tok_box HO.out hqn
    obtain ⟨⟨b0, b1, b2⟩, g0, g1, g2⟩ := trio_cell HX1
    have hzz : w.heap.size < w1.heap.size := (Array.getElem?_eq_some_iff.1 HX1).1
    obtain ⟨r0, r1, r2⟩ := boxR_fin HR0.out HO.out HX1 HR1.out (.int .i64 0) (.int .i64 0) (.int .i64 0)
    have R0 : Hid _ := r0
    have R1 : Hid (OneKept _ _ _) := r1
    have R2 : Hid (RdrAt _ _ _ _ _ _) := r2
    clear HX1 r0 r1 r2
    go_wp2
    obtain ⟨r0, r1, r2⟩ := R0.out
    refine bodyPost_ret (v := .tuple #[.agg #[.int .i64 0, .int .i64 0, .int .i64 0], .int .i64 4]) (by simp [results, Tryz.results132, go_sem, r0, r1, r2]) rfl ⟨R1.out, .inl ⟨4, m, HX.out, by decide, hm, rfl, R2.out⟩⟩
  · have HX : Hid (X = .ok (⟨1, 0, valB (((bitsIn l).drop n).take 8)⟩, (bitsIn l).drop (n + 8))) := HX2.out h1
    clear HX1 HX2
    have HO : Hid (OneKept _ w1 q) := ho
    have HR1 : Hid (RdrAt w1 q a l cap (n + 8)) := hr1
    clear ho hr1
    rw [digB_zero]
    generalize valB (((bitsIn l).drop n).take 8) = y at *
    have HX1 := tok_box HO.out hqn
    obtain ⟨⟨b0, b1, b2⟩, g0, g1, g2⟩ := trio_cell HX1
    have hzz : w.heap.size < w1.heap.size := (Array.getElem?_eq_some_iff.1 HX1).1
    obtain ⟨r0, r1, r2⟩ := boxR_fin HR0.out HO.out HX1 HR1.out (.int .i64 1) (.int .i64 0) (.int .i64 y)
    have R0 : Hid _ := r0
    have R1 : Hid (OneKept _ _ _) := r1
    have R2 : Hid (RdrAt _ _ _ _ _ _) := r2
    clear HX1 r0 r1 r2
    go_wp2
    obtain ⟨r0, r1, r2⟩ := R0.out
    refine bodyPost_ret (v := .tuple #[.agg #[.int .i64 1, .int .i64 0, .int .i64 y], .int .i64 0]) (by simp [results, Tryz.results132, go_sem, r0, r1, r2]) rfl ⟨R1.out, .inr ⟨⟨1, 0, y⟩, n + 8, HX.out, by omega, by omega, rfl, R2.out⟩⟩

/-- A copy off some bits, so much being made, so much left. -/
def rCopy (made left : Nat) (R : List Bool) : Except Int (Tok × List Bool) :=
  match rNum 6 0 R with
  | .error c => .error c
  | .ok (n, R1) =>
    if left < n + 1 then .error 6
    else match rNum 6 0 R1 with
      | .error c => .error c
      | .ok (d, R2) => if 32 < d ∨ made < d then .error 6 else .ok (⟨n + 1, d, 0⟩, R2)
theorem rTok_copy (made left : Nat) (R : List Bool) : rTok made left (true :: R) = rCopy made left R := rfl

set_option maxHeartbeats 1000000 in
theorem readCopy_calls (q : Nat) (a : Option Addr) (l : List UInt8) (cap n made left : Nat) (w : World) (X : Except Int (Tok × List Bool)) (h : RdrAt w q a l cap n) (hl : l.length ≤ 4096) (hn : n ≤ (bitsIn l).length) (hX : X = rCopy made left ((bitsIn l).drop n)) :
    Calls Tryz.prog 133 #[.pointer (some ⟨q, 0, none⟩), .int .i64 made, .int .i64 left] w fun r w' => TokRAns w w' q a l cap n X r := by
  have HX : Hid _ := hX
  clear hX
  have HR0 : Hid (RdrAt w q a l cap n) := h
  have hq := h.lt
  have hqn : w.heap.size ≠ q := by omega
  have HR : Hid (RdrAt (w.alloc (.cells #[.int .i64 0, .int .i64 0, .int .i64 0] 42)) q a l cap n) := h.below ((Below.refl _ _).alloc (Nat.le_refl _) _)
  clear h
  go_enter Tryz.func133, Tryz.ntmps133
  go_wp2_with fail
  refine (numberR_calls q a l cap n 6 _ HR.out hl hn (by decide)).mono ?_
  rintro r w1 ⟨ho, ⟨c, m, hnum, hc, hm, rfl, hr1⟩ | ⟨v, m, hnum, hm1, hm2, hv1, hv2, rfl, hr1⟩⟩
  · have HE : Hid (X = .error c) := by show _ = _; rw [HX.out, rCopy, hnum]
    have HO : Hid (OneKept _ w1 q) := ho
    have HR1 : Hid (RdrAt w1 q a l cap m) := hr1
    have HC : Hid (c ≠ 0) := hc
    have hcb : (c != 0) = true := by simpa using hc
    clear ho hr1 hnum hc
    have HX1 := tok_box HO.out hqn
    obtain ⟨⟨b0, b1, b2⟩, g0, g1, g2⟩ := trio_cell HX1
    have hzz : w.heap.size < w1.heap.size := (Array.getElem?_eq_some_iff.1 HX1).1
    obtain ⟨r0, r1, r2⟩ := boxR_fin HR0.out HO.out HX1 HR1.out (.int .i64 0) (.int .i64 0) (.int .i64 0)
    have R0 : Hid _ := r0
    have R1 : Hid (OneKept _ _ _) := r1
    have R2 : Hid (RdrAt _ _ _ _ _ _) := r2
    clear HX1 r0 r1 r2
    go_wp2
    obtain ⟨r0, r1, r2⟩ := R0.out
    refine bodyPost_ret (v := .tuple #[.agg #[.int .i64 0, .int .i64 0, .int .i64 0], .int .i64 c]) (by simp [results, Tryz.results133, go_sem, r0, r1, r2]) rfl ⟨R1.out, .inl ⟨c, m, HE.out, HC.out, hm, rfl, R2.out⟩⟩
  · have HO : Hid (OneKept _ w1 q) := ho
    have HR1 : Hid (RdrAt w1 q a l cap m) := hr1
    have HN1 : Hid (rNum 6 0 ((bitsIn l).drop n) = .ok (v, (bitsIn l).drop m)) := hnum
    clear ho hr1 hnum
    by_cases hbig : left < v + 1
    · have HE : Hid (X = .error 6) := by show _ = _; rw [HX.out, rCopy, HN1.out]; exact if_pos hbig
      have HX1 := tok_box HO.out hqn
      obtain ⟨⟨b0, b1, b2⟩, g0, g1, g2⟩ := trio_cell HX1
      have hzz : w.heap.size < w1.heap.size := (Array.getElem?_eq_some_iff.1 HX1).1
      obtain ⟨r0, r1, r2⟩ := boxR_fin HR0.out HO.out HX1 HR1.out (.int .i64 0) (.int .i64 0) (.int .i64 0)
      have R0 : Hid _ := r0
      have R1 : Hid (OneKept _ _ _) := r1
      have R2 : Hid (RdrAt _ _ _ _ _ _) := r2
      clear HX1 r0 r1 r2
      go_wp2
      obtain ⟨r0, r1, r2⟩ := R0.out
      refine bodyPost_ret (v := .tuple #[.agg #[.int .i64 0, .int .i64 0, .int .i64 0], .int .i64 6]) (by simp [results, Tryz.results133, go_sem, r0, r1, r2]) rfl ⟨R1.out, .inl ⟨6, m, HE.out, by decide, hm2, rfl, R2.out⟩⟩
    · go_wp2_with fail
      refine (numberR_calls q a l cap m 6 _ HR1.out hl hm2 (by decide)).mono ?_
      rintro r w2 ⟨ho2, ⟨c, m', hnum, hc, hm', rfl, hr2⟩ | ⟨d, m', hnum, hm3, hm4, hd1, hd2, rfl, hr2⟩⟩
      · have HE : Hid (X = .error c) := by
          show _ = _
          rw [HX.out, rCopy, HN1.out]
          refine (if_neg hbig).trans ?_
          rw [hnum]
        have HO2 : Hid (OneKept _ w2 q) := HO.out.trans ho2
        have HR2 : Hid (RdrAt w2 q a l cap m') := hr2
        have HC : Hid (c ≠ 0) := hc
        have hcb : (c != 0) = true := by simpa using hc
        clear ho2 hr2 hnum hc
        have HX1 := tok_box HO2.out hqn
        obtain ⟨⟨b0, b1, b2⟩, g0, g1, g2⟩ := trio_cell HX1
        have hzz : w.heap.size < w2.heap.size := (Array.getElem?_eq_some_iff.1 HX1).1
        obtain ⟨r0, r1, r2⟩ := boxR_fin HR0.out HO2.out HX1 HR2.out (.int .i64 0) (.int .i64 0) (.int .i64 0)
        have R0 : Hid _ := r0
        have R1 : Hid (OneKept _ _ _) := r1
        have R2 : Hid (RdrAt _ _ _ _ _ _) := r2
        clear HX1 r0 r1 r2
        go_wp2
        obtain ⟨r0, r1, r2⟩ := R0.out
        refine bodyPost_ret (v := .tuple #[.agg #[.int .i64 0, .int .i64 0, .int .i64 0], .int .i64 c]) (by simp [results, Tryz.results133, go_sem, r0, r1, r2]) rfl ⟨R1.out, .inl ⟨c, m', HE.out, HC.out, hm', rfl, R2.out⟩⟩
      · have HO2 : Hid (OneKept _ w2 q) := HO.out.trans ho2
        have HR2 : Hid (RdrAt w2 q a l cap m') := hr2
        have HN2 : Hid (rNum 6 0 ((bitsIn l).drop m) = .ok (d, (bitsIn l).drop m')) := hnum
        clear ho2 hr2 hnum
        by_cases hfar : 32 < d ∨ made < d
        · have HE : Hid (X = .error 6) := by
            show _ = _
            rw [HX.out, rCopy, HN1.out]
            refine (if_neg hbig).trans ?_
            rw [HN2.out]
            exact if_pos hfar
          have HX1 := tok_box HO2.out hqn
          obtain ⟨⟨b0, b1, b2⟩, g0, g1, g2⟩ := trio_cell HX1
          have hzz : w.heap.size < w2.heap.size := (Array.getElem?_eq_some_iff.1 HX1).1
          by_cases h32 : 32 < d
          all_goals
            first | (have hmd : made < d := by omega) | skip
            clear hfar
            obtain ⟨r0, r1, r2⟩ := boxR_fin HR0.out HO2.out HX1 HR2.out (.int .i64 0) (.int .i64 0) (.int .i64 0)
            have R0 : Hid _ := r0
            have R1 : Hid (OneKept _ _ _) := r1
            have R2 : Hid (RdrAt _ _ _ _ _ _) := r2
            clear HX1 r0 r1 r2
            go_wp2
            obtain ⟨r0, r1, r2⟩ := R0.out
            refine bodyPost_ret (v := .tuple #[.agg #[.int .i64 0, .int .i64 0, .int .i64 0], .int .i64 6]) (by simp [results, Tryz.results133, go_sem, r0, r1, r2]) rfl ⟨R1.out, .inl ⟨6, m', HE.out, by decide, hm4, rfl, R2.out⟩⟩
        · have HE : Hid (X = .ok (⟨(v : Int) + 1, d, 0⟩, (bitsIn l).drop m')) := by
            show _ = _
            rw [HX.out, rCopy, HN1.out]
            refine (if_neg hbig).trans ?_
            rw [HN2.out]
            exact if_neg hfar
          have hd32 : ¬ 32 < (d : Int) := by omega
          have hdm : ¬ (made : Int) < (d : Int) := by omega
          clear hfar
          have HX1 := tok_box HO2.out hqn
          obtain ⟨⟨b0, b1, b2⟩, g0, g1, g2⟩ := trio_cell HX1
          have hzz : w.heap.size < w2.heap.size := (Array.getElem?_eq_some_iff.1 HX1).1
          obtain ⟨r0, r1, r2⟩ := boxR_fin HR0.out HO2.out HX1 HR2.out (.int .i64 ((v : Int) + 1)) (.int .i64 d) (.int .i64 0)
          have R0 : Hid _ := r0
          have R1 : Hid (OneKept _ _ _) := r1
          have R2 : Hid (RdrAt _ _ _ _ _ _) := r2
          clear HX1 r0 r1 r2
          go_wp2
          any_goals (exfalso; omega)
          obtain ⟨r0, r1, r2⟩ := R0.out
          refine bodyPost_ret (v := .tuple #[.agg #[.int .i64 ((v : Int) + 1), .int .i64 d, .int .i64 0], .int .i64 0]) (by simp [results, Tryz.results133, go_sem, r0, r1, r2]) rfl ⟨R1.out, .inr ⟨⟨(v : Int) + 1, d, 0⟩, m', HE.out, by omega, hm4, rfl, R2.out⟩⟩

set_option maxHeartbeats 1000000 in
theorem readOne_calls (q : Nat) (a : Option Addr) (l : List UInt8) (cap n made left : Nat) (w : World) (X : Except Int (Tok × List Bool)) (h : RdrAt w q a l cap n) (hl : l.length ≤ 4096) (hn : n ≤ (bitsIn l).length) (hX : X = rTok made left ((bitsIn l).drop n)) :
    Calls Tryz.prog 130 #[.pointer (some ⟨q, 0, none⟩), .int .i64 made, .int .i64 left] w fun r w' => TokRAns w w' q a l cap n X r := by
  have HX : Hid _ := hX
  have hlen := bitsIn_length l
  have HR0 : Hid (RdrAt w q a l cap n) := h
  have hq := h.lt
  have hqn : w.heap.size ≠ q := by omega
  have HR : Hid (RdrAt (w.alloc (.cells #[.int .i64 0, .int .i64 0, .int .i64 0] 42)) q a l cap n) := h.below ((Below.refl _ _).alloc (Nat.le_refl _) _)
  clear h hX
  rcases Nat.lt_or_ge n (bitsIn l).length with hlt | hge
  · have hdr : Hid ((bitsIn l).drop n = (bitsIn l)[n] :: (bitsIn l).drop (n + 1)) := drop_cons (bitsIn l) n hlt
    have HB : Hid _ := bitR_ok q a l cap n _ HR.out hl hlt
    cases hb : (bitsIn l)[n] with
    | false =>
      rw [hb] at hdr HB
      clear hb
      have HL1 : Hid ((bitsIn l).length < n + 1 + 8 → X = .error 4) := fun hs => by rw [HX.out, hdr.out]; exact if_pos (by rw [List.length_drop]; omega)
      have HL2 : Hid (n + 1 + 8 ≤ (bitsIn l).length → X = .ok (⟨1, 0, valB (((bitsIn l).drop (n + 1)).take 8)⟩, (bitsIn l).drop (n + 1 + 8))) := fun hs => by
        rw [HX.out, hdr.out]
        refine (if_neg (by rw [List.length_drop]; omega)).trans ?_
        rw [List.drop_drop]
      go_enter Tryz.func130, Tryz.ntmps130
      go_wp2_with fail
      refine (Calls.mono HB.out ?_)
      rintro r w1 ⟨rfl, hr1, ho1⟩
      have HO : Hid (OneKept _ w1 q) := ho1
      have HR1 : Hid (RdrAt w1 q a l cap (n + 1)) := hr1
      clear hr1 ho1 HB
      rw [show ((false.toNat : Nat) : Int) = 0 from rfl]
      go_wp2_with fail
      refine (readLiteral_calls q a l cap (n + 1) _ X HR1.out hl (by omega) HL1.out HL2.out).mono ?_
      rintro r w2 ⟨ho2, ⟨c, m', hx2, hc, hm', rfl, hr2⟩ | ⟨⟨tl, td, tb⟩, m', hx2, hm3, hm4, rfl, hr2⟩⟩
      · have HE : Hid (X = .error c) := hx2
        have HO2 : Hid (OneKept _ w2 q) := HO.out.trans ho2
        have HR2 : Hid (RdrAt w2 q a l cap m') := hr2
        have HC : Hid (c ≠ 0) := hc
        clear ho2 hr2 hx2 hc
        have HX1 := tok_box HO2.out hqn
        obtain ⟨⟨b0, b1, b2⟩, g0, g1, g2⟩ := trio_cell HX1
        have hzz : w.heap.size < w2.heap.size := (Array.getElem?_eq_some_iff.1 HX1).1
        obtain ⟨r0, r1, r2⟩ := boxR_fin HR0.out HO2.out HX1 HR2.out (.int .i64 0) (.int .i64 0) (.int .i64 0)
        have R0 : Hid _ := r0
        have R1 : Hid (OneKept _ _ _) := r1
        have R2 : Hid (RdrAt _ _ _ _ _ _) := r2
        clear HX1 r0 r1 r2
        go_wp2
        obtain ⟨r0, r1, r2⟩ := R0.out
        refine bodyPost_ret (v := .tuple #[.agg #[.int .i64 0, .int .i64 0, .int .i64 0], .int .i64 c]) (by simp [results, Tryz.results130, go_sem, r0, r1, r2]) rfl ⟨R1.out, .inl ⟨c, m', HE.out, HC.out, hm', rfl, R2.out⟩⟩
      · have HE : Hid (X = .ok (⟨tl, td, tb⟩, (bitsIn l).drop m')) := hx2
        have HO2 : Hid (OneKept _ w2 q) := HO.out.trans ho2
        have HR2 : Hid (RdrAt w2 q a l cap m') := hr2
        clear ho2 hr2 hx2
        have HX1 := tok_box HO2.out hqn
        obtain ⟨⟨b0, b1, b2⟩, g0, g1, g2⟩ := trio_cell HX1
        have hzz : w.heap.size < w2.heap.size := (Array.getElem?_eq_some_iff.1 HX1).1
        obtain ⟨r0, r1, r2⟩ := boxR_fin HR0.out HO2.out HX1 HR2.out (.int .i64 tl) (.int .i64 td) (.int .i64 tb)
        have R0 : Hid _ := r0
        have R1 : Hid (OneKept _ _ _) := r1
        have R2 : Hid (RdrAt _ _ _ _ _ _) := r2
        clear HX1 r0 r1 r2
        go_wp2
        obtain ⟨r0, r1, r2⟩ := R0.out
        refine bodyPost_ret (v := .tuple #[.agg #[.int .i64 tl, .int .i64 td, .int .i64 tb], .int .i64 0]) (by simp [results, Tryz.results130, go_sem, r0, r1, r2]) rfl ⟨R1.out, .inr ⟨⟨tl, td, tb⟩, m', HE.out, by omega, hm4, rfl, R2.out⟩⟩
    | true =>
      rw [hb] at hdr HB
      clear hb
      have HC1 : Hid (X = rCopy made left ((bitsIn l).drop (n + 1))) := by show _ = _; rw [HX.out, hdr.out, rTok_copy]
      go_enter Tryz.func130, Tryz.ntmps130
      go_wp2_with fail
      refine (Calls.mono HB.out ?_)
      rintro r w1 ⟨rfl, hr1, ho1⟩
      have HO : Hid (OneKept _ w1 q) := ho1
      have HR1 : Hid (RdrAt w1 q a l cap (n + 1)) := hr1
      clear hr1 ho1 HB
      rw [show ((true.toNat : Nat) : Int) = 1 from rfl]
      go_wp2_with fail
      refine (readCopy_calls q a l cap (n + 1) made left _ X HR1.out hl (by omega) HC1.out).mono ?_
      rintro r w2 ⟨ho2, ⟨c, m', hx2, hc, hm', rfl, hr2⟩ | ⟨⟨tl, td, tb⟩, m', hx2, hm3, hm4, rfl, hr2⟩⟩
      · have HE : Hid (X = .error c) := hx2
        have HO2 : Hid (OneKept _ w2 q) := HO.out.trans ho2
        have HR2 : Hid (RdrAt w2 q a l cap m') := hr2
        have HC : Hid (c ≠ 0) := hc
        clear ho2 hr2 hx2 hc
        have HX1 := tok_box HO2.out hqn
        obtain ⟨⟨b0, b1, b2⟩, g0, g1, g2⟩ := trio_cell HX1
        have hzz : w.heap.size < w2.heap.size := (Array.getElem?_eq_some_iff.1 HX1).1
        obtain ⟨r0, r1, r2⟩ := boxR_fin HR0.out HO2.out HX1 HR2.out (.int .i64 0) (.int .i64 0) (.int .i64 0)
        have R0 : Hid _ := r0
        have R1 : Hid (OneKept _ _ _) := r1
        have R2 : Hid (RdrAt _ _ _ _ _ _) := r2
        clear HX1 r0 r1 r2
        go_wp2
        obtain ⟨r0, r1, r2⟩ := R0.out
        refine bodyPost_ret (v := .tuple #[.agg #[.int .i64 0, .int .i64 0, .int .i64 0], .int .i64 c]) (by simp [results, Tryz.results130, go_sem, r0, r1, r2]) rfl ⟨R1.out, .inl ⟨c, m', HE.out, HC.out, hm', rfl, R2.out⟩⟩
      · have HE : Hid (X = .ok (⟨tl, td, tb⟩, (bitsIn l).drop m')) := hx2
        have HO2 : Hid (OneKept _ w2 q) := HO.out.trans ho2
        have HR2 : Hid (RdrAt w2 q a l cap m') := hr2
        clear ho2 hr2 hx2
        have HX1 := tok_box HO2.out hqn
        obtain ⟨⟨b0, b1, b2⟩, g0, g1, g2⟩ := trio_cell HX1
        have hzz : w.heap.size < w2.heap.size := (Array.getElem?_eq_some_iff.1 HX1).1
        obtain ⟨r0, r1, r2⟩ := boxR_fin HR0.out HO2.out HX1 HR2.out (.int .i64 tl) (.int .i64 td) (.int .i64 tb)
        have R0 : Hid _ := r0
        have R1 : Hid (OneKept _ _ _) := r1
        have R2 : Hid (RdrAt _ _ _ _ _ _) := r2
        clear HX1 r0 r1 r2
        go_wp2
        obtain ⟨r0, r1, r2⟩ := R0.out
        refine bodyPost_ret (v := .tuple #[.agg #[.int .i64 tl, .int .i64 td, .int .i64 tb], .int .i64 0]) (by simp [results, Tryz.results130, go_sem, r0, r1, r2]) rfl ⟨R1.out, .inr ⟨⟨tl, td, tb⟩, m', HE.out, by omega, hm4, rfl, R2.out⟩⟩
  · have HE : Hid (X = .error 4) := by show _ = _; rw [HX.out, List.drop_of_length_le (by omega)]; rfl
    go_enter Tryz.func130, Tryz.ntmps130
    go_wp2_with fail
    refine (bitR_short q a l cap n _ HR.out hl (by omega) (by omega)).mono ?_
    rintro r w1 ⟨rfl, rfl⟩
    go_wp2
    refine bodyPost_ret (v := .tuple #[.agg #[.int .i64 0, .int .i64 0, .int .i64 0], .int .i64 4]) (by simp [results, Tryz.results130, go_sem]) rfl ⟨(OneKept.refl _ _).alloc _, .inl ⟨4, n, HE.out, by decide, hn, rfl, HR.out⟩⟩
end Go.Proofs.YtnpnaglgllcpfaaGreat
