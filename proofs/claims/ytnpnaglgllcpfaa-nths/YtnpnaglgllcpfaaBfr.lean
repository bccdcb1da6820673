/-
  Which of two tokens goes ahead: pressref.Before.
-/
import Derived.Test.YtnpnaglgllcpfaaParses0
namespace Go.Proofs.Ytnpnaglgllcpfaa
set_option maxRecDepth 100000
open Go.RowKit

set_option maxHeartbeats 1000000 in
theorem before_calls (l d x m e y : Int) (w : World) :
    Calls Try.prog 121 #[.agg #[.int .i64 l, .int .i64 d, .int .i64 x], .agg #[.int .i64 m, .int .i64 e, .int .i64 y]] w fun r w' => r = .returned (.bool (beforeB ⟨l, d, x⟩ ⟨m, e, y⟩)) ∧ Below w.heap.size w w' := by
  have HBW : Hid (∀ o1 o2 : Obj, Below w.heap.size w ((w.alloc o1).alloc o2)) := fun o1 o2 => ((Below.refl _ _).alloc (Nat.le_refl _) _).alloc (by simp) _
  go_enter Try.func121, Try.ntmps121
  go_wp2
  all_goals
    go_ret
    refine ⟨retB ?_, HBW.out _ _⟩
    simp only [beforeB]
    split <;> simp_all
  by_cases h : e = 0 <;> simp [h]
end Go.Proofs.Ytnpnaglgllcpfaa
