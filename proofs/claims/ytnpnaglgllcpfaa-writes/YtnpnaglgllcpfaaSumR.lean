/-
  What the program's Sum, and the document's, tell of some bytes: the same number.
-/
import Derived.Test.YtnpnaglgllcpfaaSum
namespace Go.Proofs.Ytnpnaglgllcpfaa
set_option maxRecDepth 100000
open Go.ChangeShapes Go.WideShapes Go.ChangeAt Go.RowKit
open Go.ChangeMaps (open_string shut_string)
set_option linter.unusedVariables false

theorem sum_calls (a : Option Addr) (l : List UInt8) (cap : Nat) (w : World) (hl : l.length ≤ 140737488355328) (hb : BytesAt w a l) :
    Calls Try.prog 14 #[.slice a l.length cap] w fun e w' => e = .returned (.int .i64 (Plain.total l)) ∧ w' = w := by
  have HB : Hid (BytesAt w a l) := hb
  clear hb
  go_enter Try.func14, Try.ntmps14
  go_wp2_with fail
  refine (of_calls a l cap w hl HB.out).mono ?_
  rintro e w' ⟨rfl, rfl⟩
  go_wp2_with fail
  go_ret
  exact ⟨rfl, rfl⟩
set_option maxHeartbeats 400000 in
theorem refSum_calls (a : Option Addr) (l : List UInt8) (cap : Nat) (w : World) (hl : l.length ≤ 140737488355328) (hb : BytesAt w a l) :
    Calls Try.prog 15 #[.slice a l.length cap] w fun e w' => e = .returned (.int .i64 (Plain.total l)) ∧ w' = w := by
  have HB : Hid (BytesAt w a l) := hb
  clear hb
  go_enter Try.func15, Try.ntmps15
  go_wp2
  go_loop [3, 4, 5] (fun f s i => ∃ k : Nat, k ≤ l.length ∧ i = .int .i64 k ∧ f = .int .i64 (Plain.rawOf (l.take k)).1 ∧ s = .int .i64 (Plain.rawOf (l.take k)).2) (fun _ _ i => l.length - (intOf i).toNat)
  case atStart => exact ⟨0, Nat.zero_le _, rfl, rfl, rfl⟩
  case round =>
    obtain ⟨k, hk, rfl, rfl, rfl⟩ := hrel
    have hr := Plain.raw_range (l.take k)
    have hlk : (l.take k).length ≤ 140737488355328 := by rw [List.length_take]; omega
    by_cases hlt : k < l.length
    · obtain ⟨b, off, ha, hcell⟩ : ∃ b off, a = some ⟨b, off, none⟩ ∧ ∀ i, i < l.length → w.cell? ⟨b, off + i, none⟩ = some (.int .u8 (l.getD i 0).toNat) := by
        rcases HB.out with h | h
        · rw [h] at hlt; simp at hlt
        · exact h
      subst ha
      have hc := hcell k hlt
      clear hcell
      have HS : Hid (Plain.rawOf (l.take (k + 1)) = Plain.rawStep (Plain.rawOf (l.take k)) (l.getD k 0)) := by rw [Plain.take_snoc l k hlt]; exact Plain.rawOf_snoc _ _
      have hcn : (l.getD k 0).toNat < 256 := (l.getD k 0).toNat_lt
      generalize l.getD k 0 = c at *
      generalize Plain.rawOf (l.take k) = p at *
      go_wp2
      go_round
      case rel =>
        refine ⟨k + 1, by omega, by go_num, ?_, ?_⟩
        · rw [HS.out]; simp only [Plain.rawStep]
        · rw [HS.out]; simp only [Plain.rawStep]
      case measure => simp [intOf]; omega
    · have hke : k = l.length := by omega
      have HT : Hid (Plain.total l = (Plain.rawOf (l.take k)).1 % 255 + 256 * ((Plain.rawOf (l.take k)).2 % 255)) := by
        have h := Plain.raw_sum l
        rw [hke, List.take_length, h.1, h.2]; rfl
      clear hke
      generalize Plain.rawOf (l.take k) = p at *
      go_wp2
      go_ret
      exact ⟨ret_int (by rw [HT.out]), rfl⟩
end Go.Proofs.Ytnpnaglgllcpfaa
