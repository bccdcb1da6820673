/-
  The text of bytes that a call has made.
-/
import Derived.Test.YtnpnaglgllcpfabMk
import Derived.Laws.IdiomStrings
import Derived.Laws.BytesArg
namespace Go.Proofs.Ytnpnaglgllcpfab
set_option maxRecDepth 100000
open Go.RowKit

theorem conv_own {w : World} {B : Nat} {v : Value} {out : List UInt8} (h : OwnB w B v out) : (convert 22 9 v).run Try.prog w = .ok (.string ⟨out.toArray⟩) w := by
  rcases Nat.eq_zero_or_pos out.length with h0 | h0
  · have ho : out = [] := List.eq_nil_of_length_eq_zero h0
    subst ho
    rcases h.2 with ⟨rfl, _⟩ | ⟨g, cap, cur, rfl, _⟩
    · exact run_convert_bytes_nil w 22 5 Try.underlying22 Try.underlying5 0 0 9 Try.underlying9
    · exact run_convert_bytes_back w 22 9 5 ⟨g, 0, none⟩ cap [] Try.underlying22 Try.underlying5 Try.underlying9 (fun j hj => by simp at hj)
  · obtain ⟨g, cp, rfl, _, _, hc⟩ := h.at h0
    refine run_convert_bytes_back w 22 9 5 ⟨g, 0, none⟩ cp out Try.underlying22 Try.underlying5 Try.underlying9 (fun j hj => ?_)
    have hadd : (⟨g, 0, none⟩ : Addr).add j = ⟨g, j, none⟩ := by unfold Addr.add; split <;> simp_all
    rw [hadd, hc j hj]
    simp [List.getD, hj]

theorem conv_drew {w : World} {B : Nat} {v : Value} {out : List UInt8} (h : OwnB w B v out) (n : Nat) : (convert 22 9 v).run Try.prog (w.drewN n) = .ok (.string ⟨out.toArray⟩) (w.drewN n) :=
  conv_own (w := w.drewN n) h
end Go.Proofs.Ytnpnaglgllcpfab
