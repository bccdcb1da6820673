/-
  What the program's Writer does to memory, method by method: digits, bytes, numbers, what fills a byte.
-/
import Derived.Test.YtnpnaglgllcpfabWr
import Derived.Deep.LoopGhost
namespace Go.Proofs.Ytnpnaglgllcpfab
set_option maxRecDepth 100000
open Go.RowKit

/-- The Writer's bits have become L'. -/
def WrDone (w w' : World) (q B : Nat) (v : Value) (L' : List Bool) : Prop := ∃ v', WrAt w' q B v' L' ∧ WrKept w w' q v v'

theorem half_pow (s : Nat) : 2 ^ (s + 1) / 2 = 2 ^ s := by rw [Nat.pow_succ]; omega

set_option maxHeartbeats 400000 in
theorem digits_calls (q B : Nat) (v : Value) (L : List Bool) (x top : Int) (n : Nat) (w : World) (h : WrAt w q B v L) (hB : B ≤ w.heap.size) (hl : L.length ≤ 10000000) (hx0 : 0 ≤ x) (hx1 : x ≤ 255) (hn : n ≤ 7) (ht : top = ((2 ^ n : Nat) : Int)) :
    Calls Try.prog 67 #[.pointer (some ⟨q, 0, none⟩), .int .i64 x, .int .i64 top] w fun e w' => e = .returned (.tuple #[]) ∧ WrDone w w' q B v (L ++ bin x.toNat (n + 1)) := by
  obtain ⟨x, rfl⟩ := Int.eq_ofNat_of_zero_le hx0
  rw [Int.toNat_natCast]
  have HW : Hid (WrAt w q B v L) := h
  have HTop : Hid (top = ((2 ^ n : Nat) : Int)) := ht
  clear h ht
  go_enter Try.func67, Try.ntmps67
  go_wp2
  go_loopw [6] (fun p wr => ∃ (r : Nat) (pre : List Bool) (v' : Value), r ≤ n + 1 ∧ p = .int .i64 ((2 ^ r / 2 : Nat) : Int) ∧ Hid (pre ++ bin x r = bin x (n + 1)) ∧ Hid (WrAt wr q B v' (L ++ pre)) ∧ WrKept w wr q v v') (fun p _ => (intOf p).toNat)
  case atStart => exact ⟨n + 1, [], v, Nat.le_refl _, by rw [HTop.out, half_pow], rfl, by show WrAt _ _ _ _ _; rw [List.append_nil]; exact HW.out, WrKept.refl _ _ _⟩
  case round =>
    obtain ⟨r, pre, v', hr, rfl, hpre, hw, hk⟩ := hrel
    have hlp : pre.length + r = n + 1 := by have := congrArg List.length hpre.out; rw [List.length_append, bin_length, bin_length] at this; exact this
    have hs := hk.size
    cases r with
    | zero =>
      have HP : Hid (pre = bin x (n + 1)) := by have := hpre.out; rw [bin, List.append_nil] at this; exact this
      have e0 : ((2 ^ 0 / 2 : Nat) : Int) = 0 := by decide
      rw [e0]
      go_wp2
      go_end0
      exact ⟨rfl, v', by rw [← HP.out]; exact hw.out, hk⟩
    | succ s =>
      rw [half_pow]
      have hp1 : 1 ≤ 2 ^ s := Nat.one_le_two_pow
      have hp2 : 2 ^ s ≤ 128 := Nat.pow_le_pow_right (n := 2) (by omega) (show s ≤ 7 by omega)
      have HP2 : Hid (2 ^ s / 2 = 2 ^ s / 2) := rfl
      have hnext : Hid ((pre ++ [x / 2 ^ s % 2 == 1]) ++ bin x s = bin x (n + 1)) := by have := hpre.out; rw [bin] at this; rw [List.append_assoc]; exact this
      generalize hP : 2 ^ s = P at *
      have HP : Hid _ := hP
      clear hP
      have d0 : 0 ≤ (x : Int) / (P : Int) := Int.ediv_nonneg (by omega) (by omega)
      have d1 : (x : Int) / (P : Int) ≤ 255 := Int.le_trans (Int.ediv_le_self _ (by omega)) hx1
      have m0 : 0 ≤ (x : Int) / (P : Int) % 2 := Int.emod_nonneg _ (by decide)
      have m1 : (x : Int) / (P : Int) % 2 ≤ 1 := by have := Int.emod_lt_of_pos ((x : Int) / (P : Int)) (show (0 : Int) < 2 by decide); omega
      have hdec : Hid (decide ((x : Int) / (P : Int) % 2 = 1) = (x / P % 2 == 1)) := by
        show _ = _
        rw [Bool.eq_iff_iff, decide_eq_true_eq, beq_iff_eq]
        constructor
        · intro h; have : ((x / P % 2 : Nat) : Int) = 1 := by simpa using h
          omega
        · intro h; have : ((x / P % 2 : Nat) : Int) = 1 := by rw [h]; rfl
          simpa using this
      go_wp2_with fail
      refine (bit_calls q B v' (L ++ pre) _ _ hw.out (by omega) (by simp; omega) m0 m1).mono ?_
      rintro e w1 ⟨rfl, v2, hw2, hk2⟩
      rw [hdec.out, List.append_assoc] at hw2
      have HW2 : Hid (WrAt w1 q B v2 (L ++ (pre ++ [x / P % 2 == 1]))) := hw2
      have hkk := hk.trans hk2
      clear hw2 hk2 hk
      go_wp2
      go_roundw
      case rel => exact ⟨s, _, v2, by omega, by rw [HP.out]; go_num, hnext, HW2, hkk⟩
      case measure => simp [intOf]; omega

theorem byte_calls (q B : Nat) (v : Value) (L : List Bool) (x : Int) (w : World) (h : WrAt w q B v L) (hB : B ≤ w.heap.size) (hl : L.length ≤ 10000000) (hx0 : 0 ≤ x) (hx1 : x ≤ 255) :
    Calls Try.prog 53 #[.pointer (some ⟨q, 0, none⟩), .int .i64 x] w fun e w' => e = .returned (.tuple #[]) ∧ WrDone w w' q B v (L ++ bin x.toNat 8) := by
  have HW : Hid (WrAt w q B v L) := h
  clear h
  go_enter Try.func53, Try.ntmps53
  go_wp2_with fail
  refine (digits_calls q B v L x 128 7 w HW.out hB hl hx0 hx1 (by omega) (by decide)).mono ?_
  rintro e w1 ⟨rfl, hd⟩
  have HD : Hid _ := hd
  clear hd
  go_wp2
  go_end0
  exact ⟨rfl, HD.out⟩

set_option maxHeartbeats 400000 in
theorem wnumber_calls (q B : Nat) (v : Value) (L : List Bool) (x : Int) (w : World) (h : WrAt w q B v L) (hB : B ≤ w.heap.size) (hl : L.length ≤ 9000000) (hx0 : 1 ≤ x) (hx1 : x ≤ 255) :
    Calls Try.prog 54 #[.pointer (some ⟨q, 0, none⟩), .int .i64 x] w fun e w' => e = .returned (.tuple #[]) ∧ WrDone w w' q B v (L ++ numBits x.toNat) := by
  obtain ⟨x, rfl⟩ := Int.eq_ofNat_of_zero_le (show 0 ≤ x by omega)
  rw [Int.toNat_natCast]
  have HW : Hid (WrAt w q B v L) := h
  clear h
  go_enter Try.func54, Try.ntmps54
  go_wp2
  go_loopw [4] (fun t wr => ∃ (k : Nat) (v' : Value), k ≤ 7 ∧ Hid (2 ^ k ≤ x) ∧ t = .int .i64 ((2 ^ k : Nat) : Int) ∧ Hid (WrAt wr q B v' (L ++ List.replicate k false)) ∧ WrKept w wr q v v') (fun t _ => 255 - (intOf t).toNat)
  case atStart => exact ⟨0, v, by omega, by show 2 ^ 0 ≤ x; omega, rfl, by show WrAt _ _ _ _ _; simpa using HW.out, WrKept.refl _ _ _⟩
  case round =>
    obtain ⟨k, v', hk7, hkx, rfl, hw, hk⟩ := hrel
    have hs := hk.size
    have hkx' := hkx.out
    have hp1 : 1 ≤ 2 ^ k := Nat.one_le_two_pow
    have hpk : Hid (2 ^ (k + 1) = 2 ^ k * 2) := Nat.pow_succ ..
    have hp7 : k = 7 → 128 ≤ 2 ^ k := by intro e; subst e; decide
    generalize hP : 2 ^ k = P at *
    have HP : Hid _ := hP
    clear hP
    by_cases hle : P ≤ x / 2
    · have hk6 : k < 7 := by
        rcases Nat.lt_or_ge k 7 with h | h
        · exact h
        · have := hp7 (by omega); omega
      clear hp7
      go_wp2_with fail
      refine (bit_calls q B v' (L ++ List.replicate k false) 0 _ hw.out (by omega) (by simp; omega) (by omega) (by omega)).mono ?_
      rintro e w1 ⟨rfl, v2, hw2, hk2⟩
      have HW2 : Hid (WrAt w1 q B v2 (L ++ List.replicate (k + 1) false)) := by
        show WrAt _ _ _ _ _
        rw [List.replicate_succ', ← List.append_assoc]; exact hw2
      have hkk := hk.trans hk2
      clear hw2 hk2 hk
      go_wp2
      go_roundw
      case rel => exact ⟨k + 1, v2, by omega, by show 2 ^ (k + 1) ≤ x; rw [hpk.out]; omega, by rw [hpk.out]; go_num, HW2, hkk⟩
      case measure => simp [intOf]; omega
    · clear hp7
      have HL : Hid (Nat.log2 x = k) := (Nat.log2_eq_iff (by omega)).2 ⟨by rw [HP.out]; exact hkx.out, by rw [hpk.out]; omega⟩
      go_wp2_with fail
      refine (digits_calls q B v' (L ++ List.replicate k false) _ _ k _ hw.out (by omega) (by simp; omega) (by omega) (by omega) hk7 (by rw [HP.out])).mono ?_
      rintro e w1 ⟨rfl, v2, hw2, hk2⟩
      have HW2 : Hid (WrAt w1 q B v2 (L ++ numBits x)) := by
        show WrAt _ _ _ _ _
        rw [Int.toNat_natCast, List.append_assoc] at hw2
        unfold numBits
        rw [HL.out]; exact hw2
      have hkk := hk.trans hk2
      clear hw2 hk2 hk
      go_wp2
      go_end0
      exact ⟨rfl, v2, HW2.out, hkk⟩

set_option maxHeartbeats 400000 in
theorem fill_calls (q B : Nat) (v : Value) (L : List Bool) (w : World) (h : WrAt w q B v L) (hB : B ≤ w.heap.size) (hl : L.length ≤ 10000000) :
    Calls Try.prog 55 #[.pointer (some ⟨q, 0, none⟩)] w fun e w' => e = .returned (.tuple #[]) ∧ WrDone w w' q B v (fill L) := by
  have HW : Hid (WrAt w q B v L) := h
  clear h
  go_enter Try.func55, Try.ntmps55
  go_wp2
  go_loopg [2] (padN L.length) (fun g _ wr => ∃ (L' : List Bool) (v' : Value), g = padN L'.length ∧ L'.length ≤ 10000010 - g ∧ Hid (fill L' = fill L) ∧ Hid (WrAt wr q B v' L') ∧ WrKept w wr q v v')
  case atStart => exact ⟨L, v, rfl, by unfold padN; omega, rfl, HW, WrKept.refl _ _ _⟩
  case round =>
    obtain ⟨L', v', hg, hll, hf, hw, hk⟩ := hrel
    have hs := hk.size
    obtain ⟨⟨c0, c1, c2⟩, f0, f1, f2⟩ := trio_cell hw.out.block
    rw [wrun_count] at c2
    clear c0 c1 f0 f1 f2
    have hgl : gk < 8 := by rw [hg]; unfold padN; omega
    by_cases h0 : L'.length % 8 = 0
    · have HE : Hid (L' = fill L) := by rw [← hf.out]; exact (fill_full L' h0).symm
      rw [h0] at c2
      go_wp2
      go_end0
      exact ⟨rfl, v', by rw [← HE.out]; exact hw.out, hk⟩
    · have hgg : Hid (padN (L' ++ [false]).length < gk) := by rw [hg]; show _ < _; simp only [List.length_append, List.length_cons, List.length_nil]; unfold padN; omega
      have hgl2 : L'.length + 1 ≤ 10000010 - padN (L' ++ [false]).length := by have := hgg.out; omega
      have HF : Hid (fill (L' ++ [false]) = fill L) := by show _ = _; rw [← fill_more L' h0]; exact hf.out
      have hn0 : ((L'.length : Int) % 8 == 0) = false := by simp; omega
      have HG : Hid _ := hg
      clear hg
      go_wp2_with fail
      refine (bit_calls q B v' L' 0 _ hw.out (by omega) (by omega) (by omega) (by omega)).mono ?_
      rintro e w1 ⟨rfl, v2, hw2, hk2⟩
      have HW2 : Hid (WrAt w1 q B v2 (L' ++ [false])) := hw2
      have hkk := hk.trans hk2
      clear hw2 hk2 hk
      go_wp2
      go_roundg (padN (L' ++ [false]).length)
      case measure => exact hgg.out
      case rel => exact ⟨L' ++ [false], v2, rfl, by simp at hgl2 ⊢; omega, HF, HW2, hkk⟩
end Go.Proofs.Ytnpnaglgllcpfab
