/-
  What Parse answers.
-/
import Derived.Test.YtnpnaglgllcpfabNsd
namespace Go.Proofs.Ytnpnaglgllcpfab
set_option maxRecDepth 100000
open Go.RowKit

set_option maxHeartbeats 1000000 in
theorem parse_said : ParseSaid parseOf := by
  intro a p cap w hl hb
  have HB : Hid (BytesAt w a p) := hb
  clear hb
  go_enter Try.func16, Try.ntmps16
  go_wp2_with fail
  refine (nth_said a p cap 0 w hl HB.out).mono ?_
  rintro e w1 ⟨hb1, v, ts, c, rfl, hrow, hnum, heq⟩
  obtain ⟨ao, cp, rfl⟩ := TokRow.form hrow
  have HB1 : Hid (Below w.heap.size w w1) := hb1
  have HROW : Hid _ := hrow
  have HANS : Hid ((64 < p.length ∧ c = 1 ∧ ts = []) ∨ (p.length ≤ 64 ∧ c = 0 ∧ ts = parseOf p)) := by
    rcases hnum with ⟨h1, h2, h3⟩ | ⟨h1, h2, _, _⟩ | ⟨h1, _, _, h4, _, _⟩
    · exact .inl ⟨h1, h2, h3⟩
    · have := capW_pos p 0 (by omega)
      rw [leastW_is] at h2
      omega
    · exact .inr ⟨h1, h4, heq h4⟩
  clear hb1 hrow hnum heq
  go_wp2
  go_ret2
  refine ⟨HB1.out, ?_⟩
  rcases HANS.out with ⟨h1, rfl, rfl⟩ | ⟨h1, rfl, rfl⟩
  · exact .inl ⟨h1, _, _, rfl⟩
  · exact .inr ⟨h1, _, rfl, HROW.out⟩
end Go.Proofs.Ytnpnaglgllcpfab
