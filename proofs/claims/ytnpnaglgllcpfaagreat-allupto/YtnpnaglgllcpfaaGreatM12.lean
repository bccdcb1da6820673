/-
  Lemmas for the law All: Rd2, Rd3, Rd4.
-/
import Derived.Test.YtnpnaglgllcpfaaGreatM11
import Derived.Test.YtnpnaglgllcpfaaGreatM04
import Derived.Deep.AppendLies
/- What the document's reader does to memory: a number; what fills a byte. -/
namespace Go.Proofs.YtnpnaglgllcpfaaGreat
set_option maxRecDepth 100000
open Go.RowKit

theorem number_err (q : Nat) (L : List Bool) (n : Nat) (E e : Int) (vP vD vE : Value) (w : World) (h : TextAt w q L n E vP vD vE) (hE : E ≠ 0) :
    Calls Tryz.prog 73 #[.pointer (some ⟨q, 0, none⟩), .int .i64 e] w fun r w' => r = .returned (.int .i64 0) ∧ w' = w := by
  obtain ⟨⟨c0, c1, c2⟩, f1, f2⟩ := h.cell
  have HT : Hid (TextAt w q L n E vP vD vE) := h
  have HE : Hid (E ≠ 0) := hE
  have hE' : (E != 0) = true := by simpa using hE
  clear h c0 c1 f1 f2 hE
  go_enter Tryz.func73, Tryz.ntmps73
  go_wp2_with fail
  refine (take_err q L n E 1 vP vD vE _ HT.out HE.out).mono ?_
  rintro r w1 ⟨rfl, rfl⟩
  go_wp2_with fail
  refine wp_loop_rounds 1 ?_
  rw [rounds_succ]
  go_wp2_with fail
  refine (take_err q L n E 0 vP vD vE _ HT.out HE.out).mono ?_
  rintro r w2 ⟨rfl, rfl⟩
  go_wp2
  go_ret
  exact ⟨rfl, rfl⟩

/-- One bit more at the head of number's loop. -/
theorem numRel_next {w : World} {q : Nat} {L : List Bool} {n m z : Nat} {e : Int} {vP vD vE : Value} (hm : m < L.length) (hn : n ≤ m) (hz : z ≤ 6) (hr : rNum e 0 (L.drop n) = rNum e z (L.drop m)) (ht : TextAt w q L (m + 1) 0 vP vD vE) :
    NumRel w q L n e vP vD vE z (text ((L.drop m).take 1)) := by
  refine .inl ⟨L[m], m + 1, ?_, by omega, by omega, hz, ?_, ht⟩
  · rw [drop_cons L m hm]; rfl
  · rw [hr, drop_cons L m hm]
theorem numRel_short {w : World} {q : Nat} {L : List Bool} {n m z : Nat} {e : Int} {vP vD vE : Value} (hm : m = L.length) (hz : z ≤ 7) (hr : rNum e 0 (L.drop n) = rNum e z (L.drop m)) (ht : TextAt w q L m 4 vP vD vE) :
    NumRel w q L n e vP vD vE z ⟨#[]⟩ := by
  refine .inr ⟨4, m, rfl, by omega, by decide, hz, ?_, ht⟩
  rw [hr, hm, List.drop_length]; rfl

set_option maxHeartbeats 1000000 in
theorem rnumber_calls (q : Nat) (L : List Bool) (n : Nat) (e : Int) (vP vD vE : Value) (w : World) (h : TextAt w q L n 0 vP vD vE) (hn : n ≤ L.length) (hl : L.length ≤ 100000) (he : e ≠ 0) :
    Calls Tryz.prog 73 #[.pointer (some ⟨q, 0, none⟩), .int .i64 e] w fun r w' => NumAns w w' q L n e vP vD vE r := by
  have HT : Hid (TextAt w q L n 0 vP vD vE) := h
  have HE : Hid (e ≠ 0) := he
  clear h he
  have start : Calls Tryz.prog 96 #[.pointer (some ⟨q, 0, none⟩), .int .i64 1] w fun r w' => ∃ s, r = .returned (.string s) ∧ NumRel w' q L n e vP vD vE 0 s ∧ OneKept w w' q := by
    rcases Nat.lt_or_ge n L.length with h | h
    · refine (take_ok q L n 1 vP vD vE w HT.out hl (by omega)).mono ?_
      rintro r w1 ⟨rfl, ht, hk⟩
      exact ⟨_, rfl, numRel_next h (Nat.le_refl _) (by omega) rfl ht, hk⟩
    · refine (take_short q L n 1 vP vD vE w HT.out hn hl (by omega) (by omega) (by omega)).mono ?_
      rintro r w1 ⟨rfl, ht, hk⟩
      exact ⟨_, rfl, numRel_short (by omega) (by omega) rfl ht, hk⟩
  have HST : Hid _ := start
  clear start
  go_enter Tryz.func73, Tryz.ntmps73
  go_wp2_with fail
  refine (Calls.mono HST.out ?_)
  rintro r w1 ⟨s, rfl, hrel1, hk1⟩
  have HR1 : Hid _ := hrel1
  clear hrel1 HST HT
  go_wp2_with fail
  go_loopw [5, 6] (fun z s wr => ∃ (k : Nat) (t : ByteArray), z = .int .i64 k ∧ s = .string t ∧ Hid (NumRel wr q L n e vP vD vE k t) ∧ OneKept w wr q) (fun z _ _ => 8 - (intOf z).toNat)
  case atStart => exact ⟨0, s, rfl, rfl, HR1, hk1⟩
  case round =>
    clear HR1 hk1
    obtain ⟨z, t, rfl, rfl, hrel, hk⟩ := hrel
    rcases hrel.out with ⟨b, m, rfl, hnm, hml, hz6, hnum, htx⟩ | ⟨c, m, rfl, hml, hc0, hz7, hnum, htx⟩
    · cases b with
      | false =>
        rw [show text [false] = (⟨#[48]⟩ : ByteArray) from rfl]
        have HTX : Hid (TextAt wr q L m 0 vP vD vE) := htx
        have HNUM : Hid _ := hnum
        clear hrel hnum htx
        by_cases h6 : 6 ≤ z
        · have HNE : Hid (rNum e 0 (L.drop n) = .error e) := by show _ = _; rw [HNUM.out]; exact if_pos h6
          go_wp2_with fail
          refine (err_sets q L m e vP vD vE _ HTX.out).mono ?_
          rintro r w2 ⟨rfl, ht2, hk2⟩
          have HT2 : Hid (TextAt w2 q L m e vP vD vE) := ht2
          have hkk := hk.trans hk2
          clear ht2 hk2
          go_wp2_with fail
          refine (take_err q L m e 1 vP vD vE _ HT2.out HE.out).mono ?_
          rintro r w3 ⟨rfl, rfl⟩
          go_wp2
          go_roundw
          case rel => exact ⟨z + 1, _, by go_num, rfl, .inr ⟨e, m, rfl, hml, HE.out, by omega, HNE.out, HT2.out⟩, hkk⟩
          case measure => simp [intOf]; omega
        · have HNE : Hid (rNum e 0 (L.drop n) = rNum e (z + 1) (L.drop m)) := by show _ = _; rw [HNUM.out]; exact if_neg h6
          have next : Calls Tryz.prog 96 #[.pointer (some ⟨q, 0, none⟩), .int .i64 1] wr fun r w' => ∃ s, r = .returned (.string s) ∧ NumRel w' q L n e vP vD vE (z + 1) s ∧ OneKept wr w' q := by
            rcases Nat.lt_or_ge m L.length with h | h
            · refine (take_ok q L m 1 vP vD vE wr HTX.out hl (by omega)).mono ?_
              rintro r w1 ⟨rfl, ht, hk⟩
              exact ⟨_, rfl, numRel_next h (by omega) (by omega) HNE.out ht, hk⟩
            · refine (take_short q L m 1 vP vD vE wr HTX.out hml hl (by omega) (by omega) (by omega)).mono ?_
              rintro r w1 ⟨rfl, ht, hk⟩
              exact ⟨_, rfl, numRel_short (by omega) (by omega) HNE.out ht, hk⟩
          have HNX : Hid _ := next
          clear next
          go_wp2_with fail
          refine (Calls.mono HNX.out ?_)
          rintro r w2 ⟨s2, rfl, hrel2, hk2⟩
          have HR2 : Hid _ := hrel2
          have hkk := hk.trans hk2
          clear hrel2 hk2 HNX
          go_wp2
          go_roundw
          case rel => exact ⟨z + 1, s2, by go_num, rfl, HR2, hkk⟩
          case measure => simp [intOf]; omega
      | true =>
        rw [show text [true] = (⟨#[49]⟩ : ByteArray) from rfl]
        have HTX : Hid (TextAt wr q L m 0 vP vD vE) := htx
        have HNUM : Hid _ := hnum
        clear hrel hnum htx
        by_cases hsh : L.length < m + z
        · have HNE : Hid (rNum e 0 (L.drop n) = .error 4) := by
            show _ = _
            rw [HNUM.out]
            exact if_pos (by rw [List.length_drop]; omega)
          go_wp2_with fail
          refine (take_short q L m z vP vD vE _ HTX.out hml hl (by omega) (by omega) (by omega)).mono ?_
          rintro r w2 ⟨rfl, ht2, hk2⟩
          obtain ⟨⟨c0, c1, c2⟩, f1, f2⟩ := ht2.cell
          have HT2 : Hid (TextAt w2 q L m 4 vP vD vE) := ht2
          have hkk := hk.trans hk2
          clear ht2 hk2 c0 c1 f1 f2
          go_wp2
          go_ret
          exact ⟨hkk, .inl ⟨4, m, HNE.out, by decide, hml, rfl, HT2.out⟩⟩
        · have HNE : Hid (rNum e 0 (L.drop n) = .ok (2 ^ z + valB ((L.drop m).take z), L.drop (m + z))) := by
            show _ = _
            rw [HNUM.out]
            refine (if_neg (by rw [List.length_drop]; omega)).trans ?_
            rw [List.drop_drop]
          have hvl : valB ((L.drop m).take z) < 64 := Nat.lt_of_lt_of_le (valB_lt _) (Nat.pow_le_pow_right (n := 2) (by omega) (show ((L.drop m).take z).length ≤ 6 by rw [List.length_take]; omega))
          have hp1 : 1 ≤ 2 ^ z := Nat.one_le_two_pow
          have hp2 : 2 ^ z ≤ 64 := Nat.pow_le_pow_right (n := 2) (by omega) (show z ≤ 6 by omega)
          have hpw : ((2 : Int) ^ z) = ((2 ^ z : Nat) : Int) := by simp
          have hw64 : wrap64 ((2 : Int) ^ z) = ((2 ^ z : Nat) : Int) := by rw [hpw]; exact IntWalk.wrap64_in _ ⟨by omega, by omega⟩
          have hzl : ((L.drop m).take z).length ≤ 16 := by rw [List.length_take]; omega
          have HZL : Hid (((L.drop m).take z).length ≤ 16) := hzl
          generalize hP : 2 ^ z = P at *
          have HP : Hid _ := hP
          clear hP hpw hzl
          go_wp2_with fail
          refine (take_ok q L m z vP vD vE _ HTX.out hl (by omega)).mono ?_
          rintro r w2 ⟨rfl, ht2, hk2⟩
          obtain ⟨⟨c0, c1, c2⟩, f1, f2⟩ := ht2.cell
          have HT2 : Hid (TextAt w2 q L (m + z) 0 vP vD vE) := ht2
          have hkk := hk.trans hk2
          clear ht2 hk2 c0 c1 f1 f2
          go_wp2_with fail
          go_quiet ((go_at_call 97; exact Calls.quiet_of_same (value_calls _ _ HZL.out)))
          go_wp2
          go_ret
          refine ⟨hkk.drewN _, .inr ⟨P + valB ((L.drop m).take z), m + z, ?_, by omega, by omega, by omega, by omega, ret_i64 (by omega), HT2.out⟩⟩
          rw [HNE.out]
    · have HTX : Hid (TextAt wr q L m c vP vD vE) := htx
      have HNUM : Hid (rNum e 0 (L.drop n) = .error c) := hnum
      have HC0 : Hid (c ≠ 0) := hc0
      have hE' : (c != 0) = true := by simpa using hc0
      obtain ⟨⟨c0, c1, c2⟩, f1, f2⟩ := htx.cell
      clear hrel hnum htx hc0 c0 c1 f1 f2
      go_wp2_with fail
      refine (take_err q L m c z vP vD vE _ HTX.out HC0.out).mono ?_
      rintro r w2 ⟨rfl, rfl⟩
      go_wp2
      go_ret
      exact ⟨hk, .inl ⟨c, m, HNUM.out, HC0.out, hml, rfl, HTX.out⟩⟩
end Go.Proofs.YtnpnaglgllcpfaaGreat

/- What the document's reader does to memory: what fills a byte; a token. -/
namespace Go.Proofs.YtnpnaglgllcpfaaGreat
set_option maxRecDepth 100000
open Go.RowKit

theorem rest_err (q : Nat) (L : List Bool) (n : Nat) (E : Int) (vP vD vE : Value) (w : World) (h : TextAt w q L n E vP vD vE) (hE : E ≠ 0) :
    Calls Tryz.prog 74 #[.pointer (some ⟨q, 0, none⟩)] w fun r w' => r = .returned (.tuple #[]) ∧ w' = w := by
  obtain ⟨⟨c0, c1, c2⟩, f1, f2⟩ := h.cell
  have hE' : (E == 0) = false := beq_eq_false_iff_ne.2 hE
  clear h c0 f1 f2 hE
  go_enter Tryz.func74, Tryz.ntmps74
  go_wp2
  refine wp_loop_rounds 1 ?_
  rw [rounds_succ]
  go_wp2
  go_end0
  exact ⟨rfl, rfl⟩
/-- How rest ends. -/
def RestAns (w w' : World) (q : Nat) (L : List Bool) (n : Nat) (vP vD vE : Value) : Prop :=
  OneKept w w' q ∧ ((padB (L.drop n) = false ∧ ∃ m, m ≤ L.length ∧ TextAt w' q L m 7 vP vD vE) ∨ (padB (L.drop n) = true ∧ byteEnd L n ≤ L.length ∧ TextAt w' q L (byteEnd L n) 0 vP vD vE))
set_option maxHeartbeats 1000000 in
theorem rest_calls (q : Nat) (L : List Bool) (n : Nat) (vP vD vE : Value) (w : World) (h : TextAt w q L n 0 vP vD vE) (hn : n ≤ L.length) (hl : L.length ≤ 100000) (h8 : L.length % 8 = 0) :
    Calls Tryz.prog 74 #[.pointer (some ⟨q, 0, none⟩)] w fun r w' => r = .returned (.tuple #[]) ∧ RestAns w w' q L n vP vD vE := by
  have HT : Hid (TextAt w q L n 0 vP vD vE) := h
  have H8 : Hid (L.length % 8 = 0) := h8
  clear h h8
  go_enter Tryz.func74, Tryz.ntmps74
  go_wp2
  go_loopg [2] (L.length + 1 - n) (fun g _ wr => OneKept w wr q ∧ ((∃ m, m ≤ L.length ∧ g = L.length + 1 - m ∧ Hid (padB (L.drop n) = padB (L.drop m)) ∧ Hid (byteEnd L n = byteEnd L m) ∧ Hid (TextAt wr q L m 0 vP vD vE)) ∨ (∃ m, m ≤ L.length ∧ g = 0 ∧ Hid (padB (L.drop n) = false) ∧ Hid (TextAt wr q L m 7 vP vD vE))))
  case atStart => exact ⟨OneKept.refl _ _, .inl ⟨n, hn, rfl, rfl, rfl, HT⟩⟩
  case round =>
    obtain ⟨hk, ⟨m, hm, hg, hpad, hend, htx⟩ | ⟨m, hm, hg, hpad, htx⟩⟩ := hrel
    · obtain ⟨⟨c0, c1, c2⟩, f1, f2⟩ := htx.out.cell
      clear c0 f1 f2
      by_cases h0 : m % 8 = 0
      · have hz : ((m : Int) % 8 != 0) = false := by simp; omega
        have hfin : Hid (padB (L.drop n) = true ∧ byteEnd L n = m) := by
          have := H8.out
          refine ⟨?_, ?_⟩
          · rw [hpad.out]; exact padB_full _ (by rw [List.length_drop]; omega)
          · rw [hend.out]; unfold byteEnd; omega
        have HG : Hid _ := hg
        clear hg
        go_wp2
        go_end0
        refine ⟨rfl, hk, .inr ⟨hfin.out.1, ?_, ?_⟩⟩
        · rw [hfin.out.2]; exact hm
        · rw [hfin.out.2]; exact htx.out
      · have hml : m < L.length := by have := H8.out; omega
        have hz : ((m : Int) % 8 != 0) = true := by simp; omega
        have hdr : Hid (L.drop m = L[m] :: L.drop (m + 1)) := drop_cons L m hml
        have hp : Hid (padB (L.drop m) = (!L[m] && padB (L.drop (m + 1)))) := by
          show _ = _
          rw [hdr.out]
          refine padB_cons _ _ ?_
          have := H8.out
          rw [List.length_drop]; omega
        have he : Hid (byteEnd L m = byteEnd L (m + 1)) := by show _ = _; have := H8.out; unfold byteEnd; omega
        have HG : Hid (gk = L.length + 1 - m) := hg
        have hg1 : gk ≠ 0 := by omega
        clear hg
        go_wp2_with fail
        refine (take_ok q L m 1 vP vD vE _ htx.out hl (by omega)).mono ?_
        rintro r w1 ⟨rfl, ht1, hk1⟩
        have HT1 : Hid (TextAt w1 q L (m + 1) 0 vP vD vE) := ht1
        have hkk := hk.trans hk1
        clear ht1 hk1
        rw [show (L.drop m).take 1 = [L[m]] by rw [hdr.out]; rfl]
        cases hb : L[m] with
        | false =>
          rw [show text [false] = (⟨#[48]⟩ : ByteArray) from rfl]
          have HP2 : Hid (padB (L.drop n) = padB (L.drop (m + 1))) := by show _ = _; rw [hpad.out, hp.out, hb]; rfl
          have HB : Hid _ := hb
          clear hb
          go_wp2
          go_roundg (L.length + 1 - (m + 1))
          case measure => have := HG.out; omega
          case rel => exact ⟨hkk, .inl ⟨m + 1, by omega, rfl, HP2, by show _ = _; rw [hend.out, he.out], HT1⟩⟩
        | true =>
          rw [show text [true] = (⟨#[49]⟩ : ByteArray) from rfl]
          have HP2 : Hid (padB (L.drop n) = false) := by show _ = _; rw [hpad.out, hp.out, hb]; rfl
          have HB : Hid _ := hb
          clear hb
          go_wp2_with fail
          refine (err_sets q L (m + 1) 7 vP vD vE _ HT1.out).mono ?_
          rintro r w2 ⟨rfl, ht2, hk2⟩
          have HT2 : Hid (TextAt w2 q L (m + 1) 7 vP vD vE) := ht2
          have hkk2 := hkk.trans hk2
          clear ht2 hk2
          go_wp2
          go_roundg 0
          case measure => omega
          case rel => exact ⟨hkk2, .inr ⟨m + 1, by omega, rfl, HP2, HT2⟩⟩
    · obtain ⟨⟨c0, c1, c2⟩, f1, f2⟩ := htx.out.cell
      clear c0 f1 f2
      have HG : Hid _ := hg
      clear hg
      go_wp2
      go_end0
      exact ⟨rfl, hk, .inl ⟨hpad.out, m, hm, htx.out⟩⟩
/-- How token ends. -/
def TokAns (w w' : World) (q : Nat) (L : List Bool) (n made left : Nat) (vP vD vE : Value) (r : Ending) : Prop :=
  OneKept w w' q ∧ ((∃ c m l d, rTok made left (L.drop n) = .error c ∧ c ≠ 0 ∧ m ≤ L.length ∧ 1 ≤ l ∧ l ≤ 128 ∧ (∃ x, r = .returned (.agg #[.int .i64 l, .int .i64 d, .int .i64 x])) ∧ TextAt w' q L m c vP vD vE) ∨
    ∃ (t : Tok) (m : Nat), rTok made left (L.drop n) = .ok (t, L.drop m) ∧ n < m ∧ m ≤ L.length ∧ r = .returned (.agg #[.int .i64 t.len, .int .i64 t.dist, .int .i64 t.byte]) ∧ TextAt w' q L m 0 vP vD vE)
theorem tok_fin {w w3 : World} {q : Nat} {o : Obj} {a b c : Value} {t : TypeId} {L : List Bool} {m : Nat} {E : Int} {vP vD vE : Value} (hk : OneKept (w.alloc o) w3 q) (hx : w3.heap[w.heap.size]? = some (.cells #[a, b, c] t (0, 0))) (hne : w.heap.size ≠ q) (ht : TextAt w3 q L m E vP vD vE) (x y z : Value) :
    ((((w3.setCell ⟨w.heap.size, 0, none⟩ x).setCell ⟨w.heap.size, 1, none⟩ y).setCell ⟨w.heap.size, 2, none⟩ z).cell? ⟨w.heap.size, 0, none⟩ = some x ∧
     (((w3.setCell ⟨w.heap.size, 0, none⟩ x).setCell ⟨w.heap.size, 1, none⟩ y).setCell ⟨w.heap.size, 2, none⟩ z).cell? ⟨w.heap.size, 1, none⟩ = some y ∧
     (((w3.setCell ⟨w.heap.size, 0, none⟩ x).setCell ⟨w.heap.size, 1, none⟩ y).setCell ⟨w.heap.size, 2, none⟩ z).cell? ⟨w.heap.size, 2, none⟩ = some z) ∧
    OneKept w (((w3.setCell ⟨w.heap.size, 0, none⟩ x).setCell ⟨w.heap.size, 1, none⟩ y).setCell ⟨w.heap.size, 2, none⟩ z) q ∧
    TextAt (((w3.setCell ⟨w.heap.size, 0, none⟩ x).setCell ⟨w.heap.size, 1, none⟩ y).setCell ⟨w.heap.size, 2, none⟩ z) q L m E vP vD vE := by
  have hb := set_block (i := 2) (set_block (i := 1) (set_block (i := 0) hx x) y) z
  refine ⟨?_, ⟨hk.os, hk.tape, hk.output, ?_, fun k h1 h2 => ?_⟩, ?_⟩
  · simp [World.cell?, hb]
  · have := hk.size
    simp only [set_size]
    simp at this; omega
  · rw [set_other _ (by omega), set_other _ (by omega), set_other _ (by omega), hk.heap k (by simp; omega) h2, Below.heap_alloc w o k h1]
  · unfold TextAt
    rw [set_other _ hne.symm, set_other _ hne.symm, set_other _ hne.symm]
    exact ht
set_option maxHeartbeats 1000000 in
theorem token_calls (q : Nat) (L : List Bool) (n made left : Nat) (vP vD vE : Value) (w : World) (h : TextAt w q L n 0 vP vD vE) (hn : n ≤ L.length) (hl : L.length ≤ 100000) (hf : 1 ≤ left) (hf2 : left ≤ 64) :
    Calls Tryz.prog 98 #[.pointer (some ⟨q, 0, none⟩), .int .i64 made, .int .i64 left] w fun r w' => TokAns w w' q L n made left vP vD vE r := by
  have hq := h.lt
  have HT : Hid (TextAt (w.alloc (.cells #[.int .i64 0, .int .i64 0, .int .i64 0] 42)) q L n 0 vP vD vE) := h.below ((Below.refl _ _).alloc (Nat.le_refl _) _)
  have hqn : w.heap.size ≠ q := by omega
  clear h
  rcases Nat.lt_or_ge n L.length with hlt | hge
  · have hdr : Hid (L.drop n = L[n] :: L.drop (n + 1)) := drop_cons L n hlt
    cases hb : L[n] with
    | false =>
      rw [hb] at hdr
      clear hb
      by_cases hsh : L.length < n + 1 + 8
      · have HR : Hid (rTok made left (L.drop n) = .error 4) := by show _ = _; rw [hdr.out]; exact if_pos (by rw [List.length_drop]; omega)
        go_enter Tryz.func98, Tryz.ntmps98
        go_wp2_with fail
        refine (take_ok q L n 1 vP vD vE _ HT.out hl (by omega)).mono ?_
        rintro r w1 ⟨rfl, ht1, hk1⟩
        rw [show (L.drop n).take 1 = [false] by rw [hdr.out]; rfl, show text [false] = (⟨#[48]⟩ : ByteArray) from rfl]
        have HT1 : Hid (TextAt w1 q L (n + 1) 0 vP vD vE) := ht1
        have HK1 : Hid (OneKept (w.alloc (.cells #[.int .i64 0, .int .i64 0, .int .i64 0] 42)) w1 q) := hk1
        clear ht1 hk1
        go_wp2_with fail
        refine (take_short q L (n + 1) 8 vP vD vE _ HT1.out (by omega) hl (by omega) (by omega) (by omega)).mono ?_
        rintro r w2 ⟨rfl, ht2, hk2⟩
        have HT2 : Hid (TextAt w2 q L (n + 1) 4 vP vD vE) := ht2
        have HK2 : Hid (OneKept (w.alloc (.cells #[.int .i64 0, .int .i64 0, .int .i64 0] 42)) w2 q) := HK1.out.trans hk2
        clear ht2 hk2
        go_wp2_with fail
        refine (value_calls [] _ (by simp)).mono ?_
        rintro r w3 ⟨rfl, rfl⟩
        have HX := tok_box HK2.out hqn
        obtain ⟨⟨b0, b1, b2⟩, g0, g1, g2⟩ := trio_cell HX
        have hzz : w.heap.size < w3.heap.size := (Array.getElem?_eq_some_iff.1 HX).1
        obtain ⟨r0, r1, r2⟩ := tok_fin HK2.out HX hqn HT2.out (.int .i64 1) (.int .i64 0) (.int .i64 (valB []))
        have R0 : Hid _ := r0
        have R1 : Hid _ := r1
        have R2 : Hid (TextAt _ _ _ _ _ _ _ _) := r2
        clear HX r0 r1 r2
        go_wp2
        obtain ⟨r0, r1, r2⟩ := R0.out
        refine bodyPost_ret (v := .agg #[.int .i64 1, .int .i64 0, .int .i64 (valB [])]) (by simp [results, Tryz.results98, go_sem, r0, r1, r2]) rfl ⟨R1.out, .inl ⟨4, n + 1, 1, 0, HR.out, by decide, by omega, by omega, by omega, ⟨_, rfl⟩, R2.out⟩⟩
      · have HR : Hid (rTok made left (L.drop n) = .ok (⟨1, 0, valB ((L.drop (n + 1)).take 8)⟩, L.drop (n + 1 + 8))) := by
          show _ = _
          rw [hdr.out]
          refine (if_neg (by rw [List.length_drop]; omega)).trans ?_
          rw [List.drop_drop]
        have hz8 : ((L.drop (n + 1)).take 8).length ≤ 16 := by rw [List.length_take]; omega
        have HZ8 : Hid (((L.drop (n + 1)).take 8).length ≤ 16) := hz8
        clear hz8
        go_enter Tryz.func98, Tryz.ntmps98
        go_wp2_with fail
        refine (take_ok q L n 1 vP vD vE _ HT.out hl (by omega)).mono ?_
        rintro r w1 ⟨rfl, ht1, hk1⟩
        rw [show (L.drop n).take 1 = [false] by rw [hdr.out]; rfl, show text [false] = (⟨#[48]⟩ : ByteArray) from rfl]
        have HT1 : Hid (TextAt w1 q L (n + 1) 0 vP vD vE) := ht1
        have HK1 : Hid (OneKept (w.alloc (.cells #[.int .i64 0, .int .i64 0, .int .i64 0] 42)) w1 q) := hk1
        clear ht1 hk1
        go_wp2_with fail
        refine (take_ok q L (n + 1) 8 vP vD vE _ HT1.out hl (by omega)).mono ?_
        rintro r w2 ⟨rfl, ht2, hk2⟩
        have HT2 : Hid (TextAt w2 q L (n + 1 + 8) 0 vP vD vE) := ht2
        have HK2 : Hid (OneKept (w.alloc (.cells #[.int .i64 0, .int .i64 0, .int .i64 0] 42)) w2 q) := HK1.out.trans hk2
        clear ht2 hk2
        generalize (L.drop (n + 1)).take 8 = l8 at *
        go_wp2_with fail
        refine (value_calls l8 _ HZ8.out).mono ?_
        rintro r w3 ⟨rfl, rfl⟩
        generalize valB l8 = y at *
        have HX := tok_box HK2.out hqn
        obtain ⟨⟨b0, b1, b2⟩, g0, g1, g2⟩ := trio_cell HX
        have hzz : w.heap.size < w3.heap.size := (Array.getElem?_eq_some_iff.1 HX).1
        obtain ⟨r0, r1, r2⟩ := tok_fin HK2.out HX hqn HT2.out (.int .i64 1) (.int .i64 0) (.int .i64 y)
        have R0 : Hid _ := r0
        have R1 : Hid _ := r1
        have R2 : Hid (TextAt _ _ _ _ _ _ _ _) := r2
        clear HX r0 r1 r2
        go_wp2
        obtain ⟨r0, r1, r2⟩ := R0.out
        refine bodyPost_ret (v := .agg #[.int .i64 1, .int .i64 0, .int .i64 y]) (by simp [results, Tryz.results98, go_sem, r0, r1, r2]) rfl ⟨R1.out, .inr ⟨⟨1, 0, y⟩, n + 1 + 8, HR.out, by omega, by omega, rfl, R2.out⟩⟩
    | true =>
      rw [hb] at hdr
      clear hb
      go_enter Tryz.func98, Tryz.ntmps98
      go_wp2_with fail
      refine (take_ok q L n 1 vP vD vE _ HT.out hl (by omega)).mono ?_
      rintro r w1 ⟨rfl, ht1, hk1⟩
      rw [show (L.drop n).take 1 = [true] by rw [hdr.out]; rfl, show text [true] = (⟨#[49]⟩ : ByteArray) from rfl]
      have HT1 : Hid (TextAt w1 q L (n + 1) 0 vP vD vE) := ht1
      have HK1 : Hid (OneKept (w.alloc (.cells #[.int .i64 0, .int .i64 0, .int .i64 0] 42)) w1 q) := hk1
      clear ht1 hk1
      go_wp2_with fail
      refine (rnumber_calls q L (n + 1) 6 vP vD vE _ HT1.out (by omega) hl (by decide)).mono ?_
      rintro r w2 ⟨hk2, ⟨c, m, hnum, hc, hm2, rfl, ht2⟩ | ⟨v, m, hnum, hm1, hm2, hv1, hv2, rfl, ht2⟩⟩
      · have HR : Hid (rTok made left (L.drop n) = .error c) := by show _ = _; rw [hdr.out, rTok, hnum]
        have HT2 : Hid (TextAt w2 q L m c vP vD vE) := ht2
        have HK2 : Hid (OneKept (w.alloc (.cells #[.int .i64 0, .int .i64 0, .int .i64 0] 42)) w2 q) := HK1.out.trans hk2
        have HC : Hid (c ≠ 0) := hc
        clear ht2 hk2 hnum hc
        go_wp2_with fail
        refine (number_err q L m c 6 vP vD vE _ HT2.out HC.out).mono ?_
        rintro r w3 ⟨rfl, rfl⟩
        have HX := tok_box HK2.out hqn
        obtain ⟨⟨b0, b1, b2⟩, g0, g1, g2⟩ := trio_cell HX
        have hzz : w.heap.size < w3.heap.size := (Array.getElem?_eq_some_iff.1 HX).1
        obtain ⟨r0, r1, r2⟩ := tok_fin HK2.out HX hqn HT2.out (.int .i64 1) (.int .i64 0) (.int .i64 0)
        have R0 : Hid _ := r0
        have R1 : Hid _ := r1
        have R2 : Hid (TextAt _ _ _ _ _ _ _ _) := r2
        clear HX r0 r1 r2
        go_wp2
        obtain ⟨r0, r1, r2⟩ := R0.out
        refine bodyPost_ret (v := .agg #[.int .i64 1, .int .i64 0, .int .i64 0]) (by simp [results, Tryz.results98, go_sem, r0, r1, r2]) rfl ⟨R1.out, .inl ⟨c, m, 1, 0, HR.out, HC.out, hm2, by omega, by omega, ⟨_, rfl⟩, R2.out⟩⟩
      · have HT2 : Hid (TextAt w2 q L m 0 vP vD vE) := ht2
        have HK2 : Hid (OneKept (w.alloc (.cells #[.int .i64 0, .int .i64 0, .int .i64 0] 42)) w2 q) := HK1.out.trans hk2
        have HN2 : Hid (rNum 6 0 (L.drop (n + 1)) = .ok (v, L.drop m)) := hnum
        clear ht2 hk2 hnum
        by_cases hbig : left < v + 1
        · have HR : Hid (rTok made left (L.drop n) = .error 6) := by show _ = _; rw [hdr.out, rTok, HN2.out]; exact if_pos hbig
          go_wp2_with fail
          refine (err_sets q L m 6 vP vD vE _ HT2.out).mono ?_
          rintro r w3 ⟨rfl, ht3, hk3⟩
          have HT3 : Hid (TextAt w3 q L m 6 vP vD vE) := ht3
          have HK3 : Hid (OneKept (w.alloc (.cells #[.int .i64 0, .int .i64 0, .int .i64 0] 42)) w3 q) := HK2.out.trans hk3
          clear ht3 hk3
          go_wp2_with fail
          refine (number_err q L m 6 6 vP vD vE _ HT3.out (by decide)).mono ?_
          rintro r w4 ⟨rfl, rfl⟩
          have HX := tok_box HK3.out hqn
          obtain ⟨⟨b0, b1, b2⟩, g0, g1, g2⟩ := trio_cell HX
          have hzz : w.heap.size < w4.heap.size := (Array.getElem?_eq_some_iff.1 HX).1
          obtain ⟨r0, r1, r2⟩ := tok_fin HK3.out HX hqn HT3.out (.int .i64 ((v : Int) + 1)) (.int .i64 0) (.int .i64 0)
          have R0 : Hid _ := r0
          have R1 : Hid _ := r1
          have R2 : Hid (TextAt _ _ _ _ _ _ _ _) := r2
          clear HX r0 r1 r2
          go_wp2
          obtain ⟨r0, r1, r2⟩ := R0.out
          refine bodyPost_ret (v := .agg #[.int .i64 ((v : Int) + 1), .int .i64 0, .int .i64 0]) (by simp [results, Tryz.results98, go_sem, r0, r1, r2]) rfl ⟨R1.out, .inl ⟨6, m, (v : Int) + 1, 0, HR.out, by decide, hm2, by omega, by omega, ⟨_, rfl⟩, R2.out⟩⟩
        · go_wp2_with fail
          refine (rnumber_calls q L m 6 vP vD vE _ HT2.out (by omega) hl (by decide)).mono ?_
          rintro r w3 ⟨hk3, ⟨c, m', hnum, hc, hm3, rfl, ht3⟩ | ⟨d, m', hnum, hm3, hm4, hd1, hd2, rfl, ht3⟩⟩
          · have HR : Hid (rTok made left (L.drop n) = .error c) := by
              show _ = _
              rw [hdr.out, rTok, HN2.out]
              refine (if_neg hbig).trans ?_
              rw [hnum]
            have HT3 : Hid (TextAt w3 q L m' c vP vD vE) := ht3
            have HK3 : Hid (OneKept (w.alloc (.cells #[.int .i64 0, .int .i64 0, .int .i64 0] 42)) w3 q) := HK2.out.trans hk3
            have HC : Hid (c ≠ 0) := hc
            clear ht3 hk3 hnum hc
            have HX := tok_box HK3.out hqn
            obtain ⟨⟨b0, b1, b2⟩, g0, g1, g2⟩ := trio_cell HX
            have hzz : w.heap.size < w3.heap.size := (Array.getElem?_eq_some_iff.1 HX).1
            obtain ⟨r0, r1, r2⟩ := tok_fin HK3.out HX hqn HT3.out (.int .i64 ((v : Int) + 1)) (.int .i64 0) (.int .i64 0)
            have R0 : Hid _ := r0
            have R1 : Hid _ := r1
            have R2 : Hid (TextAt _ _ _ _ _ _ _ _) := r2
            clear HX r0 r1 r2
            go_wp2
            obtain ⟨r0, r1, r2⟩ := R0.out
            refine bodyPost_ret (v := .agg #[.int .i64 ((v : Int) + 1), .int .i64 0, .int .i64 0]) (by simp [results, Tryz.results98, go_sem, r0, r1, r2]) rfl ⟨R1.out, .inl ⟨c, m', (v : Int) + 1, 0, HR.out, HC.out, hm3, by omega, by omega, ⟨_, rfl⟩, R2.out⟩⟩
          · have HT3 : Hid (TextAt w3 q L m' 0 vP vD vE) := ht3
            have HK3 : Hid (OneKept (w.alloc (.cells #[.int .i64 0, .int .i64 0, .int .i64 0] 42)) w3 q) := HK2.out.trans hk3
            have HN3 : Hid (rNum 6 0 (L.drop m) = .ok (d, L.drop m')) := hnum
            clear ht3 hk3 hnum
            by_cases hfar : 32 < d ∨ made < d
            · have HR : Hid (rTok made left (L.drop n) = .error 6) := by
                show _ = _
                rw [hdr.out, rTok, HN2.out]
                refine (if_neg hbig).trans ?_
                rw [HN3.out]
                exact if_pos hfar
              by_cases h32 : 32 < d
              all_goals
                first | (have hmd : made < d := by omega) | skip
                clear hfar
                go_wp2_with fail
                refine (err_sets q L m' 6 vP vD vE _ HT3.out).mono ?_
                rintro r w4 ⟨rfl, ht4, hk4⟩
                have HT4 : Hid (TextAt w4 q L m' 6 vP vD vE) := ht4
                have HK4 : Hid (OneKept (w.alloc (.cells #[.int .i64 0, .int .i64 0, .int .i64 0] 42)) w4 q) := HK3.out.trans hk4
                clear ht4 hk4
                have HX := tok_box HK4.out hqn
                obtain ⟨⟨b0, b1, b2⟩, g0, g1, g2⟩ := trio_cell HX
                have hzz : w.heap.size < w4.heap.size := (Array.getElem?_eq_some_iff.1 HX).1
                obtain ⟨r0, r1, r2⟩ := tok_fin HK4.out HX hqn HT4.out (.int .i64 ((v : Int) + 1)) (.int .i64 d) (.int .i64 0)
                have R0 : Hid _ := r0
                have R1 : Hid _ := r1
                have R2 : Hid (TextAt _ _ _ _ _ _ _ _) := r2
                clear HX r0 r1 r2
                go_wp2
                obtain ⟨r0, r1, r2⟩ := R0.out
                refine bodyPost_ret (v := .agg #[.int .i64 ((v : Int) + 1), .int .i64 d, .int .i64 0]) (by simp [results, Tryz.results98, go_sem, r0, r1, r2]) rfl ⟨R1.out, .inl ⟨6, m', (v : Int) + 1, d, HR.out, by decide, by omega, by omega, by omega, ⟨_, rfl⟩, R2.out⟩⟩
            · have HR : Hid (rTok made left (L.drop n) = .ok (⟨(v : Int) + 1, d, 0⟩, L.drop m')) := by
                show _ = _
                rw [hdr.out, rTok, HN2.out]
                refine (if_neg hbig).trans ?_
                rw [HN3.out]
                exact if_neg hfar
              have hd32 : d ≤ 32 := by omega
              have hdm : d ≤ made := by omega
              clear hfar
              have HX := tok_box HK3.out hqn
              obtain ⟨⟨b0, b1, b2⟩, g0, g1, g2⟩ := trio_cell HX
              have hzz : w.heap.size < w3.heap.size := (Array.getElem?_eq_some_iff.1 HX).1
              obtain ⟨r0, r1, r2⟩ := tok_fin HK3.out HX hqn HT3.out (.int .i64 ((v : Int) + 1)) (.int .i64 d) (.int .i64 0)
              have R0 : Hid _ := r0
              have R1 : Hid _ := r1
              have R2 : Hid (TextAt _ _ _ _ _ _ _ _) := r2
              clear HX r0 r1 r2
              go_wp2
              obtain ⟨r0, r1, r2⟩ := R0.out
              refine bodyPost_ret (v := .agg #[.int .i64 ((v : Int) + 1), .int .i64 d, .int .i64 0]) (by simp [results, Tryz.results98, go_sem, r0, r1, r2]) rfl ⟨R1.out, .inr ⟨⟨(v : Int) + 1, d, 0⟩, m', HR.out, by omega, by omega, rfl, R2.out⟩⟩
  · have HR : Hid (rTok made left (L.drop n) = .error 4) := by show _ = _; rw [List.drop_of_length_le (by omega)]; rfl
    go_enter Tryz.func98, Tryz.ntmps98
    go_wp2_with fail
    refine (take_short q L n 1 vP vD vE _ HT.out hn hl (by omega) (by omega) (by omega)).mono ?_
    rintro r w1 ⟨rfl, ht1, hk1⟩
    have HT1 : Hid (TextAt w1 q L n 4 vP vD vE) := ht1
    have HK1 : Hid (OneKept (w.alloc (.cells #[.int .i64 0, .int .i64 0, .int .i64 0] 42)) w1 q) := hk1
    clear ht1 hk1
    go_wp2_with fail
    refine (number_err q L n 4 6 vP vD vE _ HT1.out (by decide)).mono ?_
    rintro r w2 ⟨rfl, rfl⟩
    go_wp2_with fail
    refine (number_err q L n 4 6 vP vD vE _ HT1.out (by decide)).mono ?_
    rintro r w3 ⟨rfl, rfl⟩
    have HX := tok_box HK1.out hqn
    obtain ⟨⟨b0, b1, b2⟩, g0, g1, g2⟩ := trio_cell HX
    have hzz : w.heap.size < w3.heap.size := (Array.getElem?_eq_some_iff.1 HX).1
    obtain ⟨r0, r1, r2⟩ := tok_fin HK1.out HX hqn HT1.out (.int .i64 1) (.int .i64 0) (.int .i64 0)
    have R0 : Hid _ := r0
    have R1 : Hid _ := r1
    have R2 : Hid (TextAt _ _ _ _ _ _ _ _) := r2
    clear HX r0 r1 r2
    go_wp2
    obtain ⟨r0, r1, r2⟩ := R0.out
    refine bodyPost_ret (v := .agg #[.int .i64 1, .int .i64 0, .int .i64 0]) (by simp [results, Tryz.results98, go_sem, r0, r1, r2]) rfl ⟨R1.out, .inl ⟨4, n, 1, 0, HR.out, by decide, hn, by omega, by omega, ⟨_, rfl⟩, R2.out⟩⟩
end Go.Proofs.YtnpnaglgllcpfaaGreat

/- What the document's reader does to memory: a frame's tokens. -/
namespace Go.Proofs.YtnpnaglgllcpfaaGreat
set_option maxRecDepth 100000
open Go.RowKit

/-- What holds at the head of the loop over a frame's tokens. -/
def FrRel (w wr : World) (q : Nat) (L : List Bool) (n n0 g : Nat) (vP vD vE v : Value) (made : Nat) : Prop :=
  ∃ (acc : List Tok) (m : Nat) (E : Int), TokRow wr w.heap.size v acc ∧ made ≤ 192 ∧ OneKept w wr q ∧ TextAt wr q L m E vP vD vE ∧ m ≤ L.length ∧ acc.length ≤ 65 ∧
    ((E = 0 ∧ n0 ≤ m ∧ g = n + 1 - made ∧ made ≤ n ∧ acc.length ≤ made ∧ (∃ out, Tok.expand [] acc = some out ∧ out.length = made) ∧ rToks n n 0 (L.drop n0) = pre acc (rToks n (n - acc.length) made (L.drop m))) ∨
     (E ≠ 0 ∧ g = 0 ∧ rToks n n 0 (L.drop n0) = .error E))
/-- How the loop over a frame's tokens ends. -/
def FrEnd (w wr : World) (q : Nat) (L : List Bool) (n n0 : Nat) (vP vD vE v : Value) : Prop :=
  ∃ (acc : List Tok) (m : Nat), TokRow wr w.heap.size v acc ∧ OneKept w wr q ∧ m ≤ L.length ∧ acc.length ≤ 65 ∧
    ((∃ E, E ≠ 0 ∧ TextAt wr q L m E vP vD vE ∧ rToks n n 0 (L.drop n0) = .error E) ∨
     (∃ out, Tok.expand [] acc = some out ∧ out.length = n ∧ TextAt wr q L m 0 vP vD vE ∧ rToks n n 0 (L.drop n0) = .ok (acc, L.drop m)))
theorem frame_err (q : Nat) (L : List Bool) (n : Nat) (E m : Int) (vP vD vE : Value) (w : World) (h : TextAt w q L n E vP vD vE) (hE : E ≠ 0) :
    Calls Tryz.prog 76 #[.pointer (some ⟨q, 0, none⟩), .int .i64 m] w fun r w' => r = .returned (.tuple #[]) ∧ w' = w := by
  obtain ⟨⟨c0, c1, c2⟩, f1, f2⟩ := h.cell
  have HT : Hid (TextAt w q L n E vP vD vE) := h
  have HE : Hid (E ≠ 0) := hE
  have hE1 : (E == 0) = false := beq_eq_false_iff_ne.2 hE
  have hE' : (E != 0) = true := by simpa using hE
  clear h c0 c1 f1 f2 hE
  go_enter Tryz.func76, Tryz.ntmps76
  go_wp2_with fail
  refine wp_loop_rounds 1 ?_
  rw [rounds_succ]
  go_wp2_with fail
  refine (rest_err q L n E vP vD vE _ HT.out HE.out).mono ?_
  rintro r w1 ⟨rfl, rfl⟩
  go_wp2_with fail
  refine (take_err q L n E 8 vP vD vE _ HT.out HE.out).mono ?_
  rintro r w2 ⟨rfl, rfl⟩
  go_wp2_with fail
  refine (take_err q L n E 8 vP vD vE _ HT.out HE.out).mono ?_
  rintro r w3 ⟨rfl, rfl⟩
  go_wp2
  go_returns
  exact ⟨rfl, rfl⟩
end Go.Proofs.YtnpnaglgllcpfaaGreat
