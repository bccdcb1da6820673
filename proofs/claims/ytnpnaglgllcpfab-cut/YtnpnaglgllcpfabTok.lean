/-
  What the program's, and the document's, small functions on one token answer.
-/
import Derived.Test.YtnpnaglgllcpfabPlain
import Derived.WalkKit
import Derived.Handy
import Derived.Outline
import Derived.BigGuardPart
import Derived.Deep.QuietTactic
import Derived.BigQuiet
import Derived.WalkSmall
namespace Go.Proofs.Ytnpnaglgllcpfab
set_option maxRecDepth 100000
open Go.RowKit

theorem ret_bool {a b : Bool} (h : a = b) : Ending.returned (.bool a) = .returned (.bool b) := by rw [h]
theorem ret_i64 {a b : Int} (h : a = b) : Ending.returned (.int .i64 a) = .returned (.int .i64 b) := by rw [h]
theorem ret_str {a b : ByteArray} (h : a = b) : Ending.returned (.string a) = .returned (.string b) := by rw [h]
set_option maxHeartbeats 400000 in
theorem fits_calls (l d b m : Int) (w : World) (h0 : 0 ≤ m) (h1 : m ≤ 64) :
    Calls Try.prog 58 #[.agg #[.int .i64 l, .int .i64 d, .int .i64 b], .int .i64 m] w fun e w' => e = .returned (.bool (Tok.fitsB ⟨l, d, b⟩ m)) ∧ Below w.heap.size w w' := by
  go_enter Try.func58, Try.ntmps58
  go_wp2
  all_goals
    go_ret
    refine ⟨ret_bool ?_, by go_grown⟩
    rw [Bool.eq_iff_iff, Tok.fits_iff]
    simp at *
    omega
theorem numberLength_calls (v : Int) (w : World) (h0 : 1 ≤ v) (h1 : v ≤ 65) :
    Calls Try.prog 74 #[.int .i64 v] w fun e w' => e = .returned (.int .i64 (Tok.numLen v.toNat)) ∧ w' = w := by
  obtain ⟨n, rfl⟩ := Int.eq_ofNat_of_zero_le (show 0 ≤ v by omega)
  rw [Int.toNat_natCast]
  have hb : Tok.numLen n ≤ 15 := by have := Tok.log2_le_self n (by omega); unfold Tok.numLen; omega
  have HN : Hid (Tok.numLen n = Tok.numLen n) := rfl
  go_enter Try.func74, Try.ntmps74
  go_wp2
  go_loop [3, 4] (fun l i => ∃ r k : Nat, 1 ≤ r ∧ r ≤ 65 ∧ i = .int .i64 r ∧ l = .int .i64 k ∧ k + Tok.numLen r = Tok.numLen n + 1) (fun _ i => (intOf i).toNat)
  case atStart => exact ⟨n, 1, by omega, by omega, rfl, rfl, by omega⟩
  case round =>
    obtain ⟨r, k, hr0, hr1, rfl, rfl, hk⟩ := hrel
    by_cases hlt : 1 < r
    · have hh := Tok.numLen_half r hlt
      go_wp2
      go_round
      case rel => exact ⟨r / 2, k + 2, by omega, by omega, by go_num, by go_num, by omega⟩
      case measure => simp [intOf]; omega
    · have hr : r = 1 := by omega
      subst hr
      rw [Tok.numLen_one] at hk
      have HK : Hid (k = Tok.numLen n) := show k = _ by omega
      clear hk
      go_wp2
      go_ret
      exact ⟨ret_i64 (by rw [HK.out]), rfl⟩
theorem costOf_calls (l d b : Int) (w : World) (h : d = 0 ∨ 1 ≤ d ∧ d ≤ 32 ∧ 2 ≤ l ∧ l ≤ 64) :
    Calls Try.prog 59 #[.agg #[.int .i64 l, .int .i64 d, .int .i64 b]] w fun e w' => e = .returned (.int .i64 (Tok.cost ⟨l, d, b⟩)) ∧ Below w.heap.size w w' := by
  rcases h with h | h
  · have hd : (d == 0) = true := by simpa using h
    have HC : Hid (Tok.cost ⟨l, d, b⟩ = 9) := by unfold Tok.cost; exact if_pos h
    clear h
    go_enter Try.func59, Try.ntmps59
    go_wp2
    go_ret
    exact ⟨ret_i64 (by rw [HC.out]; rfl), by go_grown⟩
  · obtain ⟨a1, a2, a3, a4⟩ := h
    have hd : (d == 0) = false := by simp; omega
    have HC : Hid (Tok.cost ⟨l, d, b⟩ = 1 + Tok.numLen (l - 1).toNat + Tok.numLen d.toNat) := by unfold Tok.cost; exact if_neg (show ¬ d = 0 by omega)
    have b1 : Tok.numLen (l - 1).toNat ≤ 15 := by have := Tok.log2_le_self (l - 1).toNat (by omega); unfold Tok.numLen; omega
    have b2 : Tok.numLen d.toNat ≤ 15 := by have := Tok.log2_le_self d.toNat (by omega); unfold Tok.numLen; omega
    go_enter Try.func59, Try.ntmps59
    go_wp2_with fail
    refine (numberLength_calls _ _ (by omega) (by omega)).mono ?_
    rintro e w' ⟨rfl, rfl⟩
    generalize Tok.numLen (l - 1).toNat = N1 at *
    go_wp2_with fail
    refine (numberLength_calls _ _ (by omega) (by omega)).mono ?_
    rintro e w' ⟨rfl, rfl⟩
    generalize Tok.numLen d.toNat = N2 at *
    go_wp2_with fail
    go_ret
    exact ⟨ret_i64 (by rw [HC.out]; omega), by go_grown⟩
theorem bin_text (v n : Nat) : (⟨#[if v / 2 ^ n % 2 == 1 then 49 else 48]⟩ : ByteArray) ++ text (bin v n) = text (bin v (n + 1)) := by
  apply ByteArray.ext
  simp [text, chars, bin]
theorem text_size (v n : Nat) : (text (bin v n)).size = n := by simp [text, chars, bin_length, ByteArray.size]
theorem text_append (a b : List Bool) : text (a ++ b) = text a ++ text b := by
  apply ByteArray.ext
  simp [text, chars]
theorem lit_text (l : List Bool) : (⟨#[48]⟩ : ByteArray) ++ text l = text (false :: l) := by
  apply ByteArray.ext
  simp [text, chars]
theorem copy_text (l m : List Bool) : (⟨#[49]⟩ : ByteArray) ++ text l ++ text m = text (true :: (l ++ m)) := by
  apply ByteArray.ext
  simp [text, chars]
end Go.Proofs.Ytnpnaglgllcpfab
