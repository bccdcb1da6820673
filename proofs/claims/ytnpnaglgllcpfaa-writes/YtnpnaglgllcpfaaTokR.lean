/-
  What the document's functions on one token, and on a number, answer.
-/
import Derived.Test.YtnpnaglgllcpfaaTok
namespace Go.Proofs.Ytnpnaglgllcpfaa
set_option maxRecDepth 100000
open Go.RowKit

set_option maxHeartbeats 400000 in
theorem form_calls (l d b : Int) (w : World) :
    Calls Try.prog 73 #[.agg #[.int .i64 l, .int .i64 d, .int .i64 b]] w fun e w' => e = .returned (.bool (Tok.formB ⟨l, d, b⟩)) ∧ Below w.heap.size w w' := by
  go_enter Try.func73, Try.ntmps73
  go_wp2
  all_goals
    go_ret
    refine ⟨ret_bool ?_, by go_grown⟩
    rw [Bool.eq_iff_iff, Tok.form_iff]
    simp at *
    omega
theorem binary_calls (v n : Int) (w : World) (h0 : 0 ≤ v) (h1 : v ≤ 255) (h2 : 0 ≤ n) (h3 : n ≤ 64) :
    Calls Try.prog 77 #[.int .i64 v, .int .i64 n] w fun e w' => e = .returned (.string (text (bin v.toNat n.toNat))) ∧ w' = w := by
  obtain ⟨v, rfl⟩ := Int.eq_ofNat_of_zero_le h0
  obtain ⟨n, rfl⟩ := Int.eq_ofNat_of_zero_le h2
  rw [Int.toNat_natCast, Int.toNat_natCast]
  go_enter Try.func77, Try.ntmps77
  go_wp2
  go_loop [0, 5, 6] (fun x s i => ∃ k y : Nat, k ≤ n ∧ y ≤ 255 ∧ y = v / 2 ^ k ∧ x = .int .i64 y ∧ i = .int .i64 k ∧ s = .string (text (bin v k))) (fun _ _ i => n - (intOf i).toNat)
  case atStart => exact ⟨0, v, by omega, by omega, by simp, rfl, rfl, rfl⟩
  case round =>
    obtain ⟨k, y, hk, hy, hyv, rfl, rfl, rfl⟩ := hrel
    have HY : Hid (y = v / 2 ^ k) := hyv
    clear hyv
    have hsz : (text (bin v k)).size = k := by simp [text, chars, bin_length, ByteArray.size]
    have HT := bin_text v k
    rw [← HY.out] at HT
    have HT' : Hid _ := HT
    clear HT
    generalize hs : text (bin v k) = s at *
    have HS : Hid (text (bin v k) = s) := hs
    clear hs
    by_cases hlt : k < n
    · have HP : Hid (y / 2 = v / 2 ^ (k + 1)) := by
        rw [HY.out, Nat.pow_succ, Nat.div_div_eq_div_mul]; rfl
      go_wp2
      all_goals
        have hc : (((y : Int) % 2 == 1) = (y % 2 == 1)) := by rw [Bool.eq_iff_iff]; simp; omega
        rename_i hb
        rw [hc] at hb
        go_round
        case rel =>
          refine ⟨k + 1, y / 2, by omega, by omega, HP.out, by go_num, by go_num, ?_⟩
          rw [← HT'.out, hb]; rfl
        case measure => simp [intOf]; omega
    · have hkn : k = n := by omega
      subst hkn
      go_wp2
      go_ret
      exact ⟨ret_str HS.out.symm, rfl⟩
theorem number_calls (v : Int) (w : World) (h0 : 1 ≤ v) (h1 : v ≤ 255) :
    Calls Try.prog 99 #[.int .i64 v] w fun e w' => e = .returned (.string (text (numBits v.toNat))) ∧ w' = w := by
  obtain ⟨v, rfl⟩ := Int.eq_ofNat_of_zero_le (show 0 ≤ v by omega)
  rw [Int.toNat_natCast]
  go_enter Try.func99, Try.ntmps99
  go_wp2
  go_loop [3] (fun i => ∃ k : Nat, k ≤ 7 ∧ 2 ^ k ≤ v ∧ i = .int .i64 k) (fun i => 7 - (intOf i).toNat)
  case atStart => exact ⟨0, by omega, by omega, rfl⟩
  case round =>
    obtain ⟨k, hk, hkv, rfl⟩ := hrel
    obtain ⟨P, hP⟩ : ∃ P : Nat, P = 2 ^ (k + 1) := ⟨_, rfl⟩
    have hP1 : P ≤ 256 := by rw [hP]; exact Nat.pow_le_pow_right (n := 2) (by omega) (show k + 1 ≤ 8 by omega)
    have hw : wrap64 ((2 : Int) ^ (k + 1)) = (P : Int) := by
      have : ((2 : Int) ^ (k + 1)) = (P : Int) := by rw [hP]; simp
      rw [this]; exact IntWalk.wrap64_in _ ⟨by omega, by omega⟩
    have HP : Hid (P = 2 ^ (k + 1)) := hP
    clear hP
    have HK : Hid (2 ^ k ≤ v) := hkv
    clear hkv
    by_cases hle : P ≤ v
    · have hk7 : k < 7 := by
        rcases Nat.lt_or_ge k 7 with h | h
        · exact h
        · have : k = 7 := by omega
          subst this
          have := HP.out
          omega
      go_wp2
      go_round
      case rel => exact ⟨k + 1, by omega, by rw [← HP.out]; exact hle, by go_num⟩
      case measure => simp [intOf]; omega
    · have hlt : v < P := by omega
      clear hle
      have HL : Hid (numBits v = bin 0 k ++ bin v (k + 1)) := by
        have : Nat.log2 v = k := (Nat.log2_eq_iff (by omega)).2 ⟨HK.out, by rw [← HP.out]; exact hlt⟩
        show numBits v = _
        rw [bin_zero, numBits, this]
      have b1 : (text (bin 0 k)).size = k := text_size _ _
      have b2 : (text (bin v (k + 1))).size = k + 1 := text_size _ _
      go_wp2_with fail
      refine (binary_calls _ _ _ (by omega) (by omega) (by omega) (by omega)).mono ?_
      rintro e w' ⟨rfl, rfl⟩
      rw [show ((0 : Int).toNat = 0) from rfl, Int.toNat_natCast]
      generalize hs1 : text (bin 0 k) = s1 at *
      have HS1 : Hid (text (bin 0 k) = s1) := hs1
      clear hs1
      go_wp2_with fail
      refine (binary_calls _ _ _ (by omega) (by omega) (by omega) (by omega)).mono ?_
      rintro e w' ⟨rfl, rfl⟩
      rw [Int.toNat_natCast, show ((k : Int) + 1).toNat = k + 1 by omega]
      generalize hs2 : text (bin v (k + 1)) = s2 at *
      have HS2 : Hid (text (bin v (k + 1)) = s2) := hs2
      clear hs2
      go_wp2_with fail
      go_ret
      exact ⟨ret_str (by rw [HL.out, text_append, HS1.out, HS2.out]), rfl⟩
theorem bits_calls (l d b : Int) (w : World) (h : d = 0 ∧ 0 ≤ b ∧ b ≤ 255 ∨ 1 ≤ d ∧ d ≤ 32 ∧ 2 ≤ l ∧ l ≤ 64) :
    Calls Try.prog 74 #[.agg #[.int .i64 l, .int .i64 d, .int .i64 b]] w fun e w' => e = .returned (.string (text (Tok.bits ⟨l, d, b⟩))) ∧ Below w.heap.size w w' := by
  rcases h with ⟨h, a1, a2⟩ | ⟨a1, a2, a3, a4⟩
  · have hd : (d == 0) = true := by simpa using h
    have HC : Hid (Tok.bits ⟨l, d, b⟩ = false :: bin b.toNat 8) := by unfold Tok.bits; exact if_pos h
    clear h
    have b1 : (text (bin b.toNat 8)).size = 8 := text_size _ _
    go_enter Try.func74, Try.ntmps74
    go_wp2_with fail
    refine (binary_calls _ _ _ (by omega) (by omega) (by omega) (by omega)).mono ?_
    rintro e w' ⟨rfl, rfl⟩
    rw [show ((8 : Int).toNat = 8) from rfl]
    generalize hs1 : text (bin b.toNat 8) = s1 at *
    have HS1 : Hid (text (bin b.toNat 8) = s1) := hs1
    clear hs1
    go_wp2_with fail
    go_ret
    exact ⟨ret_str (by rw [HC.out, ← lit_text, HS1.out]), by go_grown⟩
  · obtain ⟨L, rfl⟩ : ∃ L : Nat, l = (L : Int) + 1 := ⟨(l - 1).toNat, by omega⟩
    obtain ⟨D, rfl⟩ : ∃ D : Nat, d = (D : Int) := ⟨d.toNat, by omega⟩
    have hd : ((D : Int) == 0) = false := by simp; omega
    have HC : Hid (Tok.bits ⟨(L : Int) + 1, D, b⟩ = true :: (numBits L ++ numBits D)) := by
      unfold Tok.bits
      refine (if_neg (show ¬ (D : Int) = 0 by omega)).trans ?_
      simp
    have hL : (text (numBits L)).size ≤ 15 := by
      have := Tok.log2_le_self L (by omega)
      simp [text, ByteArray.size, chars_length, numBits_length, Tok.numLen]; omega
    have hD : (text (numBits D)).size ≤ 15 := by
      have := Tok.log2_le_self D (by omega)
      simp [text, ByteArray.size, chars_length, numBits_length, Tok.numLen]; omega
    go_enter Try.func74, Try.ntmps74
    go_wp2_with fail
    go_quiet ((go_at_call 99; exact Calls.quiet_of_same (number_calls _ _ (by omega) (by omega))))
    go_wp2
    go_ret
    exact ⟨ret_str (by rw [HC.out, ← copy_text]), below_drewN ((Below.refl _ _).alloc (Nat.le_refl _) _) _⟩
end Go.Proofs.Ytnpnaglgllcpfaa
