/-
  What Ways answers.
-/
import Derived.Test.YtnpnaglgllcpfabBe4
namespace Go.Proofs.Ytnpnaglgllcpfab
set_option maxRecDepth 100000
open Go.RowKit

set_option maxHeartbeats 1000000 in
theorem bestWays_calls (a : Option Addr) (p : List UInt8) (cap : Nat) (w : World) (hp : p.length ≤ 64) (hb : BytesAt w a p) :
    Calls Try.prog 38 #[.slice a p.length cap] w fun e w' => Below w.heap.size w w' ∧ e = .returned (.tuple #[.int .i64 (toC p 0), .int .i64 (capW p 0)]) := by
  have HB : Hid (BytesAt w a p) := hb
  clear hb
  go_enter Try.func38, Try.ntmps38
  go_wp2_with fail
  refine (rests_calls a p cap w hp HB.out).mono ?_
  rintro e w1 ⟨hb1, g, gc, rfl, ha⟩
  obtain ⟨c0, c1, _⟩ := ha.tab 0 (Nat.le_refl _) (by omega)
  have HB1 : Hid _ := hb1
  simp only [Nat.zero_mul, Nat.zero_add] at c0 c1
  have hiI : 0 ≤ (0 : Int) ∧ (0 : Int) < ((p.length + 1 : Nat) : Int) := by omega
  clear hb1 ha
  go_wp2_with fail
  go_quiet (fail)
  go_wp2
  go_ret2
  exact ⟨below_drewN HB1.out _, rfl⟩
set_option maxHeartbeats 1000000 in
theorem ways_said : WaysSaid := by
  intro a p cap w hl hb
  have HB : Hid (BytesAt w a p) := hb
  clear hb
  go_enter Try.func17, Try.ntmps17
  by_cases h64 : 64 < p.length
  · have h1 : (64 : Int) < (p.length : Int) := by omega
    go_wp2
    go_ret3
    exact ⟨Below.refl _ _, .inl ⟨h64, rfl⟩⟩
  · have h1 : ¬ (64 : Int) < (p.length : Int) := by omega
    go_wp2_with fail
    refine (bestWays_calls a p cap w (by omega) HB.out).mono ?_
    rintro e w1 ⟨hb1, rfl⟩
    have HB1 : Hid _ := hb1
    clear hb1
    have HL : Hid (cap9 (leastW p) = (capW p 0 : Int)) := leastW_is p
    generalize capW p 0 = W at *
    go_wp2
    go_ret3
    exact ⟨HB1.out, .inr ⟨by omega, by rw [HL.out]; rfl⟩⟩
end Go.Proofs.Ytnpnaglgllcpfab
