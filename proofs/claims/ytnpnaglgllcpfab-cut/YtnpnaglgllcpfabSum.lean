/-
  What the program's Sum, and the document's, tell of some bytes: the same number.
-/
import Derived.Test.YtnpnaglgllcpfabRows
import Derived.WalkKit
import Derived.ProofKit
import Derived.OpenShut
import Derived.ShutString
import Derived.ChangeOld
import Derived.Below
import Derived.Carry
import Derived.Laws.IdiomStrings
import Derived.Handy
import Derived.SizedLaws
import Derived.Outline
namespace Go.Proofs.Ytnpnaglgllcpfab
set_option maxRecDepth 100000
open Go.ChangeShapes Go.WideShapes Go.ChangeAt Go.RowKit
open Go.ChangeMaps (open_string shut_string)
set_option linter.unusedVariables false

namespace Plain
/-- The two counts behind some bytes, each taken modulo 255 at once. -/
def sumStep (p : Int × Int) (c : UInt8) : Int × Int := ((p.1 + c.toNat) % 255, (p.2 + (p.1 + c.toNat) % 255) % 255)
def sumOf (l : List UInt8) : Int × Int := l.foldl sumStep (0, 0)
def total (l : List UInt8) : Int := (sumOf l).1 + 256 * (sumOf l).2
/-- The two counts, the first never cut, the second out of cut ones. -/
def rawStep (p : Int × Int) (c : UInt8) : Int × Int := (p.1 + c.toNat, p.2 + (p.1 + c.toNat) % 255)
def rawOf (l : List UInt8) : Int × Int := l.foldl rawStep (0, 0)
theorem sumOf_snoc (l : List UInt8) (c : UInt8) : sumOf (l ++ [c]) = sumStep (sumOf l) c := by simp [sumOf]
theorem rawOf_snoc (l : List UInt8) (c : UInt8) : rawOf (l ++ [c]) = rawStep (rawOf l) c := by simp [rawOf]
theorem raw_sum_go (l : List UInt8) : ∀ (p q : Int × Int), p.1 % 255 = q.1 → p.2 % 255 = q.2 → (l.foldl rawStep p).1 % 255 = (l.foldl sumStep q).1 ∧ (l.foldl rawStep p).2 % 255 = (l.foldl sumStep q).2 := by
  induction l with
  | nil => intro p q h1 h2; exact ⟨h1, h2⟩
  | cons c l ih =>
    intro p q h1 h2
    simp only [List.foldl_cons]
    apply ih
    · simp only [rawStep, sumStep]; omega
    · simp only [rawStep, sumStep]; omega
theorem raw_sum (l : List UInt8) : (rawOf l).1 % 255 = (sumOf l).1 ∧ (rawOf l).2 % 255 = (sumOf l).2 := raw_sum_go l (0, 0) (0, 0) rfl rfl
theorem sum_range_go (l : List UInt8) : ∀ (p : Int × Int), 0 ≤ p.1 ∧ p.1 ≤ 254 ∧ 0 ≤ p.2 ∧ p.2 ≤ 254 → 0 ≤ (l.foldl sumStep p).1 ∧ (l.foldl sumStep p).1 ≤ 254 ∧ 0 ≤ (l.foldl sumStep p).2 ∧ (l.foldl sumStep p).2 ≤ 254 := by
  induction l with
  | nil => intro p h; exact h
  | cons c l ih =>
    intro p h
    simp only [List.foldl_cons]
    apply ih
    simp only [sumStep]
    omega
theorem sum_range (l : List UInt8) : 0 ≤ (sumOf l).1 ∧ (sumOf l).1 ≤ 254 ∧ 0 ≤ (sumOf l).2 ∧ (sumOf l).2 ≤ 254 := sum_range_go l (0, 0) (by decide)
theorem raw_range_go (l : List UInt8) : ∀ (p : Int × Int) (n : Int), 0 ≤ p.1 ∧ p.1 ≤ 255 * n ∧ 0 ≤ p.2 ∧ p.2 ≤ 255 * n → 0 ≤ (l.foldl rawStep p).1 ∧ (l.foldl rawStep p).1 ≤ 255 * (n + l.length) ∧ 0 ≤ (l.foldl rawStep p).2 ∧ (l.foldl rawStep p).2 ≤ 255 * (n + l.length) := by
  induction l with
  | nil => intro p n h; simpa using h
  | cons c l ih =>
    intro p n h
    simp only [List.foldl_cons]
    have hc : c.toNat < 256 := c.toNat_lt
    have := ih (rawStep p c) (n + 1) (by simp only [rawStep]; omega)
    simp only [List.length_cons]
    omega
theorem raw_range (l : List UInt8) : 0 ≤ (rawOf l).1 ∧ (rawOf l).1 ≤ 255 * l.length ∧ 0 ≤ (rawOf l).2 ∧ (rawOf l).2 ≤ 255 * l.length := by
  have := raw_range_go l (0, 0) 0 (by decide)
  simpa [rawOf] using this
theorem take_snoc (l : List UInt8) (k : Nat) (h : k < l.length) : l.take (k + 1) = l.take k ++ [l.getD k 0] := by
  rw [List.take_succ_eq_append_getElem h]; simp [List.getD, h]
end Plain
/-- A row of bytes in memory: the bytes l lie at a. -/
def BytesAt (w : World) (a : Option Addr) (l : List UInt8) : Prop :=
  (l = [] ) ∨ ∃ b off, a = some ⟨b, off, none⟩ ∧ ∀ i, i < l.length → w.cell? ⟨b, off + i, none⟩ = some (.int .u8 (l.getD i 0).toNat)
theorem ret_int {k : IntKind} {a b : Int} (h : a = b) : Ending.returned (.int k a) = .returned (.int k b) := by rw [h]
set_option maxHeartbeats 400000 in
theorem of_calls (a : Option Addr) (l : List UInt8) (cap : Nat) (w : World) (hl : l.length ≤ 140737488355328) (hb : BytesAt w a l) :
    Calls Try.prog 61 #[.slice a l.length cap] w fun e w' => e = .returned (.int .i64 (Plain.total l)) ∧ w' = w := by
  have HB : Hid (BytesAt w a l) := hb
  clear hb
  go_enter Try.func61, Try.ntmps61
  go_wp2
  go_loop [3, 4, 9] (fun f s i => ∃ k : Nat, k ≤ l.length ∧ i = .int .i64 k ∧ f = .int .i64 (Plain.sumOf (l.take k)).1 ∧ s = .int .i64 (Plain.sumOf (l.take k)).2) (fun _ _ i => l.length - (intOf i).toNat)
  case atStart => exact ⟨0, Nat.zero_le _, rfl, rfl, rfl⟩
  case round =>
    obtain ⟨k, hk, rfl, rfl, rfl⟩ := hrel
    have hr := Plain.sum_range (l.take k)
    by_cases hlt : k < l.length
    · obtain ⟨b, off, ha, hcell⟩ : ∃ b off, a = some ⟨b, off, none⟩ ∧ ∀ i, i < l.length → w.cell? ⟨b, off + i, none⟩ = some (.int .u8 (l.getD i 0).toNat) := by
        rcases HB.out with h | h
        · rw [h] at hlt; simp at hlt
        · exact h
      subst ha
      have hc := hcell k hlt
      clear hcell
      have HS : Hid (Plain.sumOf (l.take (k + 1)) = Plain.sumStep (Plain.sumOf (l.take k)) (l.getD k 0)) := by rw [Plain.take_snoc l k hlt]; exact Plain.sumOf_snoc _ _
      have hcn : (l.getD k 0).toNat < 256 := (l.getD k 0).toNat_lt
      generalize l.getD k 0 = c at *
      generalize Plain.sumOf (l.take k) = p at *
      go_wp2
      go_round
      case rel =>
        refine ⟨k + 1, by omega, by go_num, ?_, ?_⟩
        · rw [HS.out]; simp only [Plain.sumStep]
        · rw [HS.out]; simp only [Plain.sumStep]
      case measure => simp [intOf]; omega
    · go_wp2
      go_ret
      have : k = l.length := by omega
      subst this
      exact ⟨ret_int (by rw [List.take_length]; rfl), rfl⟩
end Go.Proofs.Ytnpnaglgllcpfab
