/-
  What the document's reader does to memory: the first three bytes.
-/
import Derived.Test.YtnpnaglgllcpfaaRd5
namespace Go.Proofs.Ytnpnaglgllcpfaa
set_option maxRecDepth 100000
open Go.RowKit

def MagRel (w wr : World) (q : Nat) (L : List Bool) (vP vD vE : Value) (k : Nat) : Prop :=
  OneKept w wr q ∧ ((8 * k ≤ L.length ∧ TextAt wr q L (8 * k) 0 vP vD vE ∧ rMagic [80, 90, 49] L = rMagic ([80, 90, 49].drop k) (L.drop (8 * k))) ∨
    ∃ c m, c ≠ 0 ∧ m ≤ L.length ∧ TextAt wr q L m c vP vD vE ∧ rMagic [80, 90, 49] L = .error c)
set_option maxHeartbeats 1000000 in
/-- One byte of the first three. -/
theorem magic_round (q : Nat) (L : List Bool) (vP vD vE : Value) (w wr : World) (k : Nat) (b : Nat) (bs : List Nat) (hk : ([80, 90, 49] : List Nat).drop k = b :: bs) (hl : L.length ≤ 100000) (hr : MagRel w wr q L vP vD vE k) :
    Calls Try.prog 100 #[.pointer (some ⟨q, 0, none⟩), .int .i64 8] wr fun r w' => ∃ l, l.length ≤ 16 ∧ r = .returned (.string (text l)) ∧ OneKept w w' q ∧
      ((∃ m, m ≤ L.length ∧ TextAt w' q L m 0 vP vD vE ∧ ((valB l = b ∧ m = 8 * (k + 1) ∧ rMagic [80, 90, 49] L = rMagic ([80, 90, 49].drop (k + 1)) (L.drop (8 * (k + 1)))) ∨ (valB l ≠ b ∧ rMagic [80, 90, 49] L = .error 3))) ∨
       ∃ c m, c ≠ 0 ∧ m ≤ L.length ∧ TextAt w' q L m c vP vD vE ∧ rMagic [80, 90, 49] L = .error c) := by
  obtain ⟨hkp, ⟨h8, ht, heq⟩ | ⟨c, m, hc, hm, ht, heq⟩⟩ := hr
  · rw [hk] at heq
    replace heq := heq.trans (show rMagic (b :: bs) (L.drop (8 * k)) = if (L.drop (8 * k)).length < 8 then .error 4 else if valB ((L.drop (8 * k)).take 8) = b then rMagic bs ((L.drop (8 * k)).drop 8) else .error 3 from rfl)
    rcases Nat.lt_or_ge L.length (8 * k + 8) with h | h
    · refine (take_short q L (8 * k) 8 vP vD vE wr ht h8 hl (by omega) (by omega) (by omega)).mono ?_
      rintro r w1 ⟨rfl, ht1, hk1⟩
      rw [if_pos (by rw [List.length_drop]; omega)] at heq
      exact ⟨[], by simp, rfl, hkp.trans hk1, .inr ⟨4, 8 * k, by decide, h8, ht1, heq⟩⟩
    · refine (take_ok q L (8 * k) 8 vP vD vE wr ht hl (by omega)).mono ?_
      rintro r w1 ⟨rfl, ht1, hk1⟩
      rw [if_neg (by rw [List.length_drop]; omega)] at heq
      refine ⟨(L.drop (8 * k)).take 8, by rw [List.length_take]; omega, rfl, hkp.trans hk1, .inl ⟨8 * k + 8, by omega, ht1, ?_⟩⟩
      by_cases hv : valB ((L.drop (8 * k)).take 8) = b
      · rw [if_pos hv, List.drop_drop] at heq
        exact .inl ⟨hv, by omega, by rw [magic_at k b bs hk, heq]; rfl⟩
      · rw [if_neg hv] at heq
        exact .inr ⟨hv, heq⟩
  · refine (take_err q L m c 8 vP vD vE wr ht hc).mono ?_
    rintro r w1 ⟨rfl, rfl⟩
    exact ⟨[], by simp, rfl, hkp, .inr ⟨c, m, hc, hm, ht, heq⟩⟩
set_option maxHeartbeats 1000000 in
theorem magic_calls (q : Nat) (L : List Bool) (vP vD vE : Value) (w : World) (h : TextAt w q L 0 0 vP vD vE) (hl : L.length ≤ 100000) :
    Calls Try.prog 78 #[.pointer (some ⟨q, 0, none⟩)] w fun r w' => r = .returned (.tuple #[]) ∧ MagRel w w' q L vP vD vE 3 := by
  have HT : Hid (TextAt w q L 0 0 vP vD vE) := h
  clear h
  go_enter Try.func78, Try.ntmps78
  go_wp2
  go_loopw [2] (fun i wr => ∃ (k : Nat), k ≤ 3 ∧ i = .int .i64 k ∧ Hid (MagRel w wr q L vP vD vE k)) (fun i _ => 3 - (intOf i).toNat)
  case atStart => exact ⟨0, by omega, rfl, OneKept.refl _ _, .inl ⟨by omega, HT.out, rfl⟩⟩
  case round =>
    obtain ⟨k, hk, rfl, hrel⟩ := hrel
    rcases (show k = 0 ∨ k = 1 ∨ k = 2 ∨ k = 3 by omega) with rfl | rfl | rfl | rfl
    · have HM : Hid _ := magic_round q L vP vD vE w wr 0 80 [90, 49] rfl hl hrel.out
      have hmg := magic0
      clear hrel
      go_wp2_with fail
      refine (Calls.mono HM.out ?_)
      rintro r w1 ⟨l, hll, rfl, hk1, ⟨m, hm, ht1, hcase⟩ | ⟨c, m, hc, hm, ht1, heq⟩⟩
      · obtain ⟨⟨c0, c1, c2⟩, f1, f2⟩ := ht1.cell
        have HT1 : Hid (TextAt w1 q L m 0 vP vD vE) := ht1
        clear ht1 c0 c1 f1 f2 HM
        rcases hcase with ⟨hv, hm8, heq⟩ | ⟨hv, heq⟩
        · have hne : ((valB l : Int) != 80) = false := by rw [hv]; decide
          have HMM : Hid (m = 8 * (0 + 1)) := hm8
          have HEQ : Hid _ := heq
          clear hv hm8 heq
          go_wp2_with fail
          go_quiet ((go_at_call 101; exact Calls.quiet_of_same (value_calls l _ hll)))
          go_wp2
          go_roundw
          case rel => exact ⟨0 + 1, by omega, by go_num, hk1.drewN _, .inl ⟨by have := HMM.out; omega, by rw [← HMM.out]; exact HT1.out, HEQ.out⟩⟩
          case measure => simp [intOf]
        · have hne : ((valB l : Int) != 80) = true := by simp; omega
          have HEQ : Hid _ := heq
          clear hv heq
          go_wp2_with fail
          go_quiet ((go_at_call 101; exact Calls.quiet_of_same (value_calls l _ hll)))
          go_wp2_with fail
          refine (err_sets q L m 3 vP vD vE _ (by exact HT1.out)).mono ?_
          rintro r w2 ⟨rfl, ht2, hk2⟩
          have HT2 : Hid (TextAt w2 q L m 3 vP vD vE) := ht2
          have HK2 : Hid (OneKept w w2 q) := (hk1.drewN _).trans hk2
          clear ht2 hk2
          go_wp2
          go_roundw
          case rel => exact ⟨0 + 1, by omega, by go_num, HK2.out, .inr ⟨3, m, by decide, hm, HT2.out, HEQ.out⟩⟩
          case measure => simp [intOf]
      · obtain ⟨⟨c0, c1, c2⟩, f1, f2⟩ := ht1.cell
        have HT1 : Hid (TextAt w1 q L m c vP vD vE) := ht1
        have HC : Hid (c ≠ 0) := hc
        have hc0 : (c == 0) = false := beq_eq_false_iff_ne.2 hc
        have HEQ : Hid _ := heq
        clear ht1 c0 c1 f1 f2 HM hc heq
        go_wp2_with fail
        go_quiet (fail)
        go_wp2
        go_roundw
        case rel => exact ⟨0 + 1, by omega, by go_num, hk1.drewN _, .inr ⟨c, m, HC.out, hm, HT1.out, HEQ.out⟩⟩
        case measure => simp [intOf]
    · have HM : Hid _ := magic_round q L vP vD vE w wr 1 90 [49] rfl hl hrel.out
      have hmg := magic1
      clear hrel
      go_wp2_with fail
      refine (Calls.mono HM.out ?_)
      rintro r w1 ⟨l, hll, rfl, hk1, ⟨m, hm, ht1, hcase⟩ | ⟨c, m, hc, hm, ht1, heq⟩⟩
      · obtain ⟨⟨c0, c1, c2⟩, f1, f2⟩ := ht1.cell
        have HT1 : Hid (TextAt w1 q L m 0 vP vD vE) := ht1
        clear ht1 c0 c1 f1 f2 HM
        rcases hcase with ⟨hv, hm8, heq⟩ | ⟨hv, heq⟩
        · have hne : ((valB l : Int) != 90) = false := by rw [hv]; decide
          have HMM : Hid (m = 8 * (1 + 1)) := hm8
          have HEQ : Hid _ := heq
          clear hv hm8 heq
          go_wp2_with fail
          go_quiet ((go_at_call 101; exact Calls.quiet_of_same (value_calls l _ hll)))
          go_wp2
          go_roundw
          case rel => exact ⟨1 + 1, by omega, by go_num, hk1.drewN _, .inl ⟨by have := HMM.out; omega, by rw [← HMM.out]; exact HT1.out, HEQ.out⟩⟩
          case measure => simp [intOf]
        · have hne : ((valB l : Int) != 90) = true := by simp; omega
          have HEQ : Hid _ := heq
          clear hv heq
          go_wp2_with fail
          go_quiet ((go_at_call 101; exact Calls.quiet_of_same (value_calls l _ hll)))
          go_wp2_with fail
          refine (err_sets q L m 3 vP vD vE _ (by exact HT1.out)).mono ?_
          rintro r w2 ⟨rfl, ht2, hk2⟩
          have HT2 : Hid (TextAt w2 q L m 3 vP vD vE) := ht2
          have HK2 : Hid (OneKept w w2 q) := (hk1.drewN _).trans hk2
          clear ht2 hk2
          go_wp2
          go_roundw
          case rel => exact ⟨1 + 1, by omega, by go_num, HK2.out, .inr ⟨3, m, by decide, hm, HT2.out, HEQ.out⟩⟩
          case measure => simp [intOf]
      · obtain ⟨⟨c0, c1, c2⟩, f1, f2⟩ := ht1.cell
        have HT1 : Hid (TextAt w1 q L m c vP vD vE) := ht1
        have HC : Hid (c ≠ 0) := hc
        have hc0 : (c == 0) = false := beq_eq_false_iff_ne.2 hc
        have HEQ : Hid _ := heq
        clear ht1 c0 c1 f1 f2 HM hc heq
        go_wp2_with fail
        go_quiet (fail)
        go_wp2
        go_roundw
        case rel => exact ⟨1 + 1, by omega, by go_num, hk1.drewN _, .inr ⟨c, m, HC.out, hm, HT1.out, HEQ.out⟩⟩
        case measure => simp [intOf]
    · have HM : Hid _ := magic_round q L vP vD vE w wr 2 49 [] rfl hl hrel.out
      have hmg := magic2
      clear hrel
      go_wp2_with fail
      refine (Calls.mono HM.out ?_)
      rintro r w1 ⟨l, hll, rfl, hk1, ⟨m, hm, ht1, hcase⟩ | ⟨c, m, hc, hm, ht1, heq⟩⟩
      · obtain ⟨⟨c0, c1, c2⟩, f1, f2⟩ := ht1.cell
        have HT1 : Hid (TextAt w1 q L m 0 vP vD vE) := ht1
        clear ht1 c0 c1 f1 f2 HM
        rcases hcase with ⟨hv, hm8, heq⟩ | ⟨hv, heq⟩
        · have hne : ((valB l : Int) != 49) = false := by rw [hv]; decide
          have HMM : Hid (m = 8 * (2 + 1)) := hm8
          have HEQ : Hid _ := heq
          clear hv hm8 heq
          go_wp2_with fail
          go_quiet ((go_at_call 101; exact Calls.quiet_of_same (value_calls l _ hll)))
          go_wp2
          go_roundw
          case rel => exact ⟨2 + 1, by omega, by go_num, hk1.drewN _, .inl ⟨by have := HMM.out; omega, by rw [← HMM.out]; exact HT1.out, HEQ.out⟩⟩
          case measure => simp [intOf]
        · have hne : ((valB l : Int) != 49) = true := by simp; omega
          have HEQ : Hid _ := heq
          clear hv heq
          go_wp2_with fail
          go_quiet ((go_at_call 101; exact Calls.quiet_of_same (value_calls l _ hll)))
          go_wp2_with fail
          refine (err_sets q L m 3 vP vD vE _ (by exact HT1.out)).mono ?_
          rintro r w2 ⟨rfl, ht2, hk2⟩
          have HT2 : Hid (TextAt w2 q L m 3 vP vD vE) := ht2
          have HK2 : Hid (OneKept w w2 q) := (hk1.drewN _).trans hk2
          clear ht2 hk2
          go_wp2
          go_roundw
          case rel => exact ⟨2 + 1, by omega, by go_num, HK2.out, .inr ⟨3, m, by decide, hm, HT2.out, HEQ.out⟩⟩
          case measure => simp [intOf]
      · obtain ⟨⟨c0, c1, c2⟩, f1, f2⟩ := ht1.cell
        have HT1 : Hid (TextAt w1 q L m c vP vD vE) := ht1
        have HC : Hid (c ≠ 0) := hc
        have hc0 : (c == 0) = false := beq_eq_false_iff_ne.2 hc
        have HEQ : Hid _ := heq
        clear ht1 c0 c1 f1 f2 HM hc heq
        go_wp2_with fail
        go_quiet (fail)
        go_wp2
        go_roundw
        case rel => exact ⟨2 + 1, by omega, by go_num, hk1.drewN _, .inr ⟨c, m, HC.out, hm, HT1.out, HEQ.out⟩⟩
        case measure => simp [intOf]
    · have HM : Hid _ := hrel.out
      clear hrel
      go_wp2
      go_end0
      exact ⟨rfl, HM.out⟩
end Go.Proofs.Ytnpnaglgllcpfaa
