/-
  What the document's reader does to memory: a number; what fills a byte.
-/
import Derived.Test.YtnpnaglgllcpfaaRd
namespace Go.Proofs.Ytnpnaglgllcpfaa
set_option maxRecDepth 100000
open Go.RowKit

theorem number_err (q : Nat) (L : List Bool) (n : Nat) (E e : Int) (vP vD vE : Value) (w : World) (h : TextAt w q L n E vP vD vE) (hE : E ≠ 0) :
    Calls Try.prog 79 #[.pointer (some ⟨q, 0, none⟩), .int .i64 e] w fun r w' => r = .returned (.int .i64 0) ∧ w' = w := by
  obtain ⟨⟨c0, c1, c2⟩, f1, f2⟩ := h.cell
  have HT : Hid (TextAt w q L n E vP vD vE) := h
  have HE : Hid (E ≠ 0) := hE
  have hE' : (E != 0) = true := by simpa using hE
  clear h c0 c1 f1 f2 hE
  go_enter Try.func79, Try.ntmps79
  go_wp2_with fail
  refine (take_err q L n E 1 vP vD vE _ HT.out HE.out).mono ?_
  rintro r w1 ⟨rfl, rfl⟩
  go_wp2_with fail
  refine wp_loop_rounds 1 ?_
  rw [rounds_succ]
  go_wp2_with fail
  refine (take_err q L n E 0 vP vD vE _ HT.out HE.out).mono ?_
  rintro r w2 ⟨rfl, rfl⟩
  go_wp2
  go_ret
  exact ⟨rfl, rfl⟩

/-- One bit more at the head of number's loop. -/
theorem numRel_next {w : World} {q : Nat} {L : List Bool} {n m z : Nat} {e : Int} {vP vD vE : Value} (hm : m < L.length) (hn : n ≤ m) (hz : z ≤ 6) (hr : rNum e 0 (L.drop n) = rNum e z (L.drop m)) (ht : TextAt w q L (m + 1) 0 vP vD vE) :
    NumRel w q L n e vP vD vE z (text ((L.drop m).take 1)) := by
  refine .inl ⟨L[m], m + 1, ?_, by omega, by omega, hz, ?_, ht⟩
  · rw [drop_cons L m hm]; rfl
  · rw [hr, drop_cons L m hm]
theorem numRel_short {w : World} {q : Nat} {L : List Bool} {n m z : Nat} {e : Int} {vP vD vE : Value} (hm : m = L.length) (hz : z ≤ 7) (hr : rNum e 0 (L.drop n) = rNum e z (L.drop m)) (ht : TextAt w q L m 4 vP vD vE) :
    NumRel w q L n e vP vD vE z ⟨#[]⟩ := by
  refine .inr ⟨4, m, rfl, by omega, by decide, hz, ?_, ht⟩
  rw [hr, hm, List.drop_length]; rfl

set_option maxHeartbeats 1000000 in
theorem rnumber_calls (q : Nat) (L : List Bool) (n : Nat) (e : Int) (vP vD vE : Value) (w : World) (h : TextAt w q L n 0 vP vD vE) (hn : n ≤ L.length) (hl : L.length ≤ 100000) (he : e ≠ 0) :
    Calls Try.prog 79 #[.pointer (some ⟨q, 0, none⟩), .int .i64 e] w fun r w' => NumAns w w' q L n e vP vD vE r := by
  have HT : Hid (TextAt w q L n 0 vP vD vE) := h
  have HE : Hid (e ≠ 0) := he
  clear h he
  have start : Calls Try.prog 100 #[.pointer (some ⟨q, 0, none⟩), .int .i64 1] w fun r w' => ∃ s, r = .returned (.string s) ∧ NumRel w' q L n e vP vD vE 0 s ∧ OneKept w w' q := by
    rcases Nat.lt_or_ge n L.length with h | h
    · refine (take_ok q L n 1 vP vD vE w HT.out hl (by omega)).mono ?_
      rintro r w1 ⟨rfl, ht, hk⟩
      exact ⟨_, rfl, numRel_next h (Nat.le_refl _) (by omega) rfl ht, hk⟩
    · refine (take_short q L n 1 vP vD vE w HT.out hn hl (by omega) (by omega) (by omega)).mono ?_
      rintro r w1 ⟨rfl, ht, hk⟩
      exact ⟨_, rfl, numRel_short (by omega) (by omega) rfl ht, hk⟩
  have HST : Hid _ := start
  clear start
  go_enter Try.func79, Try.ntmps79
  go_wp2_with fail
  refine (Calls.mono HST.out ?_)
  rintro r w1 ⟨s, rfl, hrel1, hk1⟩
  have HR1 : Hid _ := hrel1
  clear hrel1 HST HT
  go_wp2_with fail
  go_loopw [5, 6] (fun z s wr => ∃ (k : Nat) (t : ByteArray), z = .int .i64 k ∧ s = .string t ∧ Hid (NumRel wr q L n e vP vD vE k t) ∧ OneKept w wr q) (fun z _ _ => 8 - (intOf z).toNat)
  case atStart => exact ⟨0, s, rfl, rfl, HR1, hk1⟩
  case round =>
    clear HR1 hk1
    obtain ⟨z, t, rfl, rfl, hrel, hk⟩ := hrel
    rcases hrel.out with ⟨b, m, rfl, hnm, hml, hz6, hnum, htx⟩ | ⟨c, m, rfl, hml, hc0, hz7, hnum, htx⟩
    · cases b with
      | false =>
        rw [show text [false] = (⟨#[48]⟩ : ByteArray) from rfl]
        have HTX : Hid (TextAt wr q L m 0 vP vD vE) := htx
        have HNUM : Hid _ := hnum
        clear hrel hnum htx
        by_cases h6 : 6 ≤ z
        · have HNE : Hid (rNum e 0 (L.drop n) = .error e) := by show _ = _; rw [HNUM.out]; exact if_pos h6
          go_wp2_with fail
          refine (err_sets q L m e vP vD vE _ HTX.out).mono ?_
          rintro r w2 ⟨rfl, ht2, hk2⟩
          have HT2 : Hid (TextAt w2 q L m e vP vD vE) := ht2
          have hkk := hk.trans hk2
          clear ht2 hk2
          go_wp2_with fail
          refine (take_err q L m e 1 vP vD vE _ HT2.out HE.out).mono ?_
          rintro r w3 ⟨rfl, rfl⟩
          go_wp2
          go_roundw
          case rel => exact ⟨z + 1, _, by go_num, rfl, .inr ⟨e, m, rfl, hml, HE.out, by omega, HNE.out, HT2.out⟩, hkk⟩
          case measure => simp [intOf]; omega
        · have HNE : Hid (rNum e 0 (L.drop n) = rNum e (z + 1) (L.drop m)) := by show _ = _; rw [HNUM.out]; exact if_neg h6
          have next : Calls Try.prog 100 #[.pointer (some ⟨q, 0, none⟩), .int .i64 1] wr fun r w' => ∃ s, r = .returned (.string s) ∧ NumRel w' q L n e vP vD vE (z + 1) s ∧ OneKept wr w' q := by
            rcases Nat.lt_or_ge m L.length with h | h
            · refine (take_ok q L m 1 vP vD vE wr HTX.out hl (by omega)).mono ?_
              rintro r w1 ⟨rfl, ht, hk⟩
              exact ⟨_, rfl, numRel_next h (by omega) (by omega) HNE.out ht, hk⟩
            · refine (take_short q L m 1 vP vD vE wr HTX.out hml hl (by omega) (by omega) (by omega)).mono ?_
              rintro r w1 ⟨rfl, ht, hk⟩
              exact ⟨_, rfl, numRel_short (by omega) (by omega) HNE.out ht, hk⟩
          have HNX : Hid _ := next
          clear next
          go_wp2_with fail
          refine (Calls.mono HNX.out ?_)
          rintro r w2 ⟨s2, rfl, hrel2, hk2⟩
          have HR2 : Hid _ := hrel2
          have hkk := hk.trans hk2
          clear hrel2 hk2 HNX
          go_wp2
          go_roundw
          case rel => exact ⟨z + 1, s2, by go_num, rfl, HR2, hkk⟩
          case measure => simp [intOf]; omega
      | true =>
        rw [show text [true] = (⟨#[49]⟩ : ByteArray) from rfl]
        have HTX : Hid (TextAt wr q L m 0 vP vD vE) := htx
        have HNUM : Hid _ := hnum
        clear hrel hnum htx
        by_cases hsh : L.length < m + z
        · have HNE : Hid (rNum e 0 (L.drop n) = .error 4) := by
            show _ = _
            rw [HNUM.out]
            exact if_pos (by rw [List.length_drop]; omega)
          go_wp2_with fail
          refine (take_short q L m z vP vD vE _ HTX.out hml hl (by omega) (by omega) (by omega)).mono ?_
          rintro r w2 ⟨rfl, ht2, hk2⟩
          obtain ⟨⟨c0, c1, c2⟩, f1, f2⟩ := ht2.cell
          have HT2 : Hid (TextAt w2 q L m 4 vP vD vE) := ht2
          have hkk := hk.trans hk2
          clear ht2 hk2 c0 c1 f1 f2
          go_wp2
          go_ret
          exact ⟨hkk, .inl ⟨4, m, HNE.out, by decide, hml, rfl, HT2.out⟩⟩
        · have HNE : Hid (rNum e 0 (L.drop n) = .ok (2 ^ z + valB ((L.drop m).take z), L.drop (m + z))) := by
            show _ = _
            rw [HNUM.out]
            refine (if_neg (by rw [List.length_drop]; omega)).trans ?_
            rw [List.drop_drop]
          have hvl : valB ((L.drop m).take z) < 64 := Nat.lt_of_lt_of_le (valB_lt _) (Nat.pow_le_pow_right (n := 2) (by omega) (show ((L.drop m).take z).length ≤ 6 by rw [List.length_take]; omega))
          have hp1 : 1 ≤ 2 ^ z := Nat.one_le_two_pow
          have hp2 : 2 ^ z ≤ 64 := Nat.pow_le_pow_right (n := 2) (by omega) (show z ≤ 6 by omega)
          have hpw : ((2 : Int) ^ z) = ((2 ^ z : Nat) : Int) := by simp
          have hw64 : wrap64 ((2 : Int) ^ z) = ((2 ^ z : Nat) : Int) := by rw [hpw]; exact IntWalk.wrap64_in _ ⟨by omega, by omega⟩
          have hzl : ((L.drop m).take z).length ≤ 16 := by rw [List.length_take]; omega
          have HZL : Hid (((L.drop m).take z).length ≤ 16) := hzl
          generalize hP : 2 ^ z = P at *
          have HP : Hid _ := hP
          clear hP hpw hzl
          go_wp2_with fail
          refine (take_ok q L m z vP vD vE _ HTX.out hl (by omega)).mono ?_
          rintro r w2 ⟨rfl, ht2, hk2⟩
          obtain ⟨⟨c0, c1, c2⟩, f1, f2⟩ := ht2.cell
          have HT2 : Hid (TextAt w2 q L (m + z) 0 vP vD vE) := ht2
          have hkk := hk.trans hk2
          clear ht2 hk2 c0 c1 f1 f2
          go_wp2_with fail
          go_quiet ((go_at_call 101; exact Calls.quiet_of_same (value_calls _ _ HZL.out)))
          go_wp2
          go_ret
          refine ⟨hkk.drewN _, .inr ⟨P + valB ((L.drop m).take z), m + z, ?_, by omega, by omega, by omega, by omega, ret_i64 (by omega), HT2.out⟩⟩
          rw [HNE.out]
    · have HTX : Hid (TextAt wr q L m c vP vD vE) := htx
      have HNUM : Hid (rNum e 0 (L.drop n) = .error c) := hnum
      have HC0 : Hid (c ≠ 0) := hc0
      have hE' : (c != 0) = true := by simpa using hc0
      obtain ⟨⟨c0, c1, c2⟩, f1, f2⟩ := htx.cell
      clear hrel hnum htx hc0 c0 c1 f1 f2
      go_wp2_with fail
      refine (take_err q L m c z vP vD vE _ HTX.out HC0.out).mono ?_
      rintro r w2 ⟨rfl, rfl⟩
      go_wp2
      go_ret
      exact ⟨hk, .inl ⟨c, m, HNUM.out, HC0.out, hml, rfl, HTX.out⟩⟩
end Go.Proofs.Ytnpnaglgllcpfaa
