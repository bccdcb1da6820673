/-
  A slice of texts that came in: how long each may be.
-/
import Derived.Test.YtnpnaglgllcpfaaOpenStrs
import Derived.SizedLaws
namespace Go.Proofs.Ytnpnaglgllcpfaa
set_option maxRecDepth 100000
open Go.ChangeShapes Go.WideShapes Go.ChangeAt Go.RowKit Go.Deep

theorem weightsAll_mem {H : Type} {P : Program} {e : TypeId} : ∀ {ds : List (DataW H)} {d : DataW H}, d ∈ ds → ∀ n ∈ d.weights P e, n ∈ DataW.weightsAll P e ds
  | d' :: r, d, hd, n, hn => by
    simp only [DataW.weightsAll, List.mem_append]
    rcases List.mem_cons.1 hd with rfl | h
    · exact Or.inl hn
    · exact Or.inr (weightsAll_mem h n hn)
theorem open_texts_sized {H : Type} {enc : TypeId × Value → H} {w : World} {base : Nat} {spare : Nat → Bool} {held : Bool} {fuel : Nat} {cs : List Value} {x : DataW H × List MemPlace} (h : DataW.trod enc Try.prog w base spare held fuel 40 cs = some x)
    {ts : List TypeId} {ds : List (DataW H)} (hsz : (DataW.weightsEach Try.prog ts ds).all (· ≤ reachBytes) = true) {j : Nat} (ht : ts[j]? = some 40) (hd : ds[j]? = some x.1) :
    ∃ (a : Option Addr) (cap : Nat) (l : List ByteArray), cs = [.slice a l.length cap] ∧ l.length ≤ 9223372036854775807 ∧ StrsAt w a l ∧ ∀ i (hi : i < l.length), l[i].size ≤ 140737488355328 := by
  rcases open_strs Try.underlying40 Try.underlying9 cellsStr h with ⟨rfl, _⟩ | ⟨a, len, cap, m, Sx, rfl, hb, hl, hm, hmm, hxx, hx⟩
  · exact ⟨none, 0, [], rfl, by simp, .inl rfl, fun i hi => by simp at hi⟩
  · have hlm : len ≤ m := by rw [hmm]; split <;> omega
    have hlen : ((List.range len).map Sx).length = len := by simp
    refine ⟨some a, cap, (List.range len).map Sx, by rw [hlen], by rw [hlen]; unfold maxLen at hm; omega, ?_, fun i hi => ?_⟩
    · rcases Nat.eq_zero_or_pos len with h0 | h0
      · subst h0; exact .inl rfl
      · obtain ⟨b, off, spot⟩ := a
        have hs : spot = none := by simpa [Addr.add] using World.cell?_spot (hx 0 (by omega)).1
        subst hs
        have hadd : ∀ j, (⟨b, off, none⟩ : Addr).add j = ⟨b, off + j, none⟩ := fun j => by unfold Addr.add; split <;> simp_all
        refine .inr ⟨b, off, rfl, ?_, fun i hi => ?_⟩
        · have := World.block_lt_of_cell? w _ (hx 0 (by omega)).1
          simpa [Addr.add] using this
        · have hi' : i < len := by simpa using hi
          have := hx i (by omega)
          rw [hadd] at this
          simp only [List.getElem_map, List.getElem_range]
          refine ⟨this.1, ?_⟩
          have h2 := this.2
          unfold maxLen at h2
          omega
    · have hi' : i < len := by simpa using hi
      subst hxx
      have hmem : (DataW.lit (.string (Sx i).data.toList) : DataW H) ∈ (List.range len).map fun i => (DataW.lit (.string (Sx i).data.toList) : DataW H) := List.mem_map.2 ⟨i, by simpa using hi', rfl⟩
      have := of_decide_eq_true (List.all_eq_true.1 hsz _ (DataW.weights_mem_each ht hd (Sx i).data.toList.length (by
        simp only [DataW.weights, Try.underlying40, List.mem_cons, List.mem_append]
        exact Or.inr (Or.inl (weightsAll_mem hmem _ (by simp [DataW.weights]))))))
      simp only [List.getElem_map, List.getElem_range]
      have e : (Sx i).data.toList.length = (Sx i).size := rfl
      rw [e] at this
      unfold reachBytes at this
      omega
end Go.Proofs.Ytnpnaglgllcpfaa
