/-
  A slice of tokens that came in: what it reads as, and the tokens in memory.
-/
import Derived.Test.YtnpnaglgllcpfabExp
import Derived.ProofKit
import Derived.OpenShut
import Derived.ChangeOld
import Derived.Carry
import Derived.Deep.Slices
import Derived.Deep.Strs
namespace Go.Proofs.Ytnpnaglgllcpfab
set_option maxRecDepth 100000
open Go.ChangeShapes Go.WideShapes Go.ChangeAt Go.RowKit Go.Deep

theorem cellsTok : Try.prog.cellsOf 60 = 3 := by kernel_rfl
theorem cellsInt : Try.prog.cellsOf 3 = 1 := by kernel_rfl

section
variable {H : Type} {enc : TypeId × Value → H} {w : World} {base : Nat} {spare : Nat → Bool} {held : Bool}

theorem open_tok {fuel : Nat} {cs : List Value} {x : DataW H × List MemPlace} (h : DataW.trod enc Try.prog w base spare held fuel 60 cs = some x) :
    ∃ t : Tok, cs = [.int .i64 t.len, .int .i64 t.dist, .int .i64 t.byte] := by
  obtain ⟨y0, y1, y2, n, _, hl, h0, h1, h2⟩ := trod_struct3 Try.underlying60 h
  rw [cellsTok] at hl
  match cs, hl with
  | [c0, c1, c2], _ =>
    simp [cellsInt] at h0 h1 h2
    obtain ⟨a0, e0, _, _⟩ := DataW.trod_int Try.underlying3 h0
    obtain ⟨a1, e1, _, _⟩ := DataW.trod_int Try.underlying3 h1
    obtain ⟨a2, e2, _, _⟩ := DataW.trod_int Try.underlying3 h2
    simp at e0 e1 e2
    subst e0 e1 e2
    exact ⟨⟨a0, a1, a2⟩, rfl⟩

theorem open_toks {fuel : Nat} {cs : List Value} {x : DataW H × List MemPlace} (h : DataW.trod enc Try.prog w base spare held fuel 34 cs = some x) :
    ∃ (a : Option Addr) (cap : Nat) (ts : List Tok), cs = [.slice a ts.length cap] ∧ ts.length ≤ 9223372036854775807 ∧ ToksAt w a ts := by
  rcases open_slice Try.underlying34 h with ⟨rfl, _⟩ | ⟨a, len, cap, m, n, D, Pl, rfl, hb, hl, hm, hmm, _, hx⟩
  · exact ⟨none, 0, [], rfl, by simp, .inl rfl⟩
  · have hlm : len ≤ m := by rw [hmm]; split <;> omega
    have each : ∀ i, i < len → ∃ t : Tok, w.cell? (a.add (i * 3)) = some (.int .i64 t.len) ∧ w.cell? (a.add (i * 3 + 1)) = some (.int .i64 t.dist) ∧ w.cell? (a.add (i * 3 + 2)) = some (.int .i64 t.byte) := by
      intro i hi
      obtain ⟨cs', h1, h2⟩ := hx i (by omega)
      rw [cellsTok] at h1
      obtain ⟨_, _, hcell⟩ := World.cells?_some h1
      obtain ⟨t, rfl⟩ := open_tok h2
      have e0 := hcell 0 (by omega)
      have e1 := hcell 1 (by omega)
      have e2 := hcell 2 (by omega)
      rw [add_add] at e0 e1 e2
      exact ⟨t, by simpa using e0, by simpa using e1, by simpa using e2⟩
    have inh : Inhabited Tok := ⟨⟨0, 0, 0⟩⟩
    obtain ⟨T, hT⟩ := choose_lt each
    have hlen : ((List.range len).map T).length = len := by simp
    refine ⟨some a, cap, (List.range len).map T, by rw [hlen], by rw [hlen]; unfold maxLen at hm; omega, ?_⟩
    rcases Nat.eq_zero_or_pos len with h0 | h0
    · subst h0; exact .inl rfl
    · obtain ⟨b, off, spot⟩ := a
      have hs : spot = none := by simpa [Addr.add] using World.cell?_spot (hT 0 h0).1
      subst hs
      refine .inr ⟨b, off, rfl, ?_, fun i hi => ?_⟩
      · have := World.block_lt_of_cell? w _ (hT 0 h0).1
        simpa [Addr.add] using this
      · have hi' : i < len := by simpa using hi
        have hadd : ∀ j, (⟨b, off, none⟩ : Addr).add j = ⟨b, off + j, none⟩ := fun j => by unfold Addr.add; split <;> simp_all
        have := hT i hi'
        rw [hadd, hadd, hadd] at this
        simp only [List.getElem_map, List.getElem_range]
        simpa [Nat.add_assoc] using this
end
end Go.Proofs.Ytnpnaglgllcpfab
