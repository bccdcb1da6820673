/-
  The document's least cost of a piece, and how many lists have it: pressref.Least.
-/
import Derived.Test.YtnpnaglgllcpfaaFrm
namespace Go.Proofs.Ytnpnaglgllcpfaa
set_option maxRecDepth 100000
open Go.RowKit
open Dp

set_option maxHeartbeats 1000000 in
theorem least_calls (a : Option Addr) (p : List UInt8) (cap : Nat) (w : World) (hp : p.length ≤ 64) (hb : BytesAt w a p) :
    Calls Try.prog 51 #[.slice a p.length cap] w fun e w' => Below w.heap.size w w' ∧ e = .returned (.tuple #[.int .i64 (leastC p), .int .i64 (cap9 (leastW p))]) := by
  have HB : Hid (BytesAt w a p) := hb
  clear hb
  go_enter Try.func51, Try.ntmps51
  go_wp2_with fail
  refine (from_calls a p cap w hp HB.out).mono ?_
  rintro e w1 ⟨hb1, q, gc, gw, cc, cw, cs, ws, rfl, hk, hr⟩
  have HB1 : Hid (Below w.heap.size w w1) := hb1
  have hcl := hr.lc
  have hwl := hr.lw
  have hat := hr.at' p.length (Nat.le_refl _)
  rw [show (net p).from p.length p.length = (net p).to 0 from (net p).from_to, least_is] at hat
  obtain ⟨h1, h2⟩ := hat
  obtain ⟨a0, a1, a2, a3, _, _⟩ := hk.cells p.length (by omega) (by omega)
  rw [h1] at a2
  rw [h2] at a3
  have hi1 : 0 ≤ (p.length : Int) ∧ (p.length : Int) < (cs.length : Int) := by omega
  have hi2 : 0 ≤ (p.length : Int) ∧ (p.length : Int) < (ws.length : Int) := by omega
  generalize hU : cap9 (leastW p : Int) = U at *
  generalize hC : leastC p = C at *
  have HU : Hid (cap9 (leastW p : Int) = U) := hU
  have HC : Hid (leastC p = C) := hC
  clear hU hC
  have HCL : Hid _ := hcl
  have HWL : Hid _ := hwl
  clear hb1 hk hr h1 h2 hcl hwl
  go_wp2_with fail
  go_quiet (fail)
  go_wp2
  go_ret2
  exact ⟨below_drewN HB1.out _, by rw [HU.out, HC.out]; rfl⟩
end Go.Proofs.Ytnpnaglgllcpfaa
