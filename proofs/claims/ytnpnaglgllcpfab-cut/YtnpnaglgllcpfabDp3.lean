/-
  Plain facts on tables of least costs and of counts that are cut at 1,000,000,000, of no program.
-/
import Derived.Test.YtnpnaglgllcpfabDp2
namespace Go.Proofs.Ytnpnaglgllcpfab
open Dp

def cap9 (n : Int) : Int := min n 1000000000
def meetC (cs : List Int) (at' : Nat) (cost : Int) : List Int := if cost < cs.getD at' 0 then cs.set at' cost else cs
def meetW (cs ws : List Int) (at' : Nat) (cost ways : Int) : List Int := if cost < cs.getD at' 0 then ws.set at' (cap9 ways) else if cost = cs.getD at' 0 then ws.set at' (cap9 (ws.getD at' 0 + ways)) else ws

theorem cap9_cap9 (n : Int) : cap9 (cap9 n) = cap9 n := by unfold cap9; omega
theorem cap9_add (a b : Nat) : cap9 (cap9 (a : Int) + cap9 (b : Int)) = cap9 ((a + b : Nat) : Int) := by unfold cap9; omega
theorem cap9_range (a : Nat) : 0 ≤ cap9 (a : Int) ∧ cap9 (a : Int) ≤ 1000000000 := by unfold cap9; omega

/-- A cost and a count that stand for what is known. -/
def RepAt (c w : Int) : S → Prop
  | none => c = 1073741824 ∧ w = 0
  | some (a, u) => c = (a : Int) ∧ w = cap9 (u : Int)
/-- Two lists stand for what is known of the places 0 to n. -/
structure Rep (n : Nat) (cs ws : List Int) (A : Tab) : Prop where
  lc : cs.length = n + 1
  lw : ws.length = n + 1
  at' : ∀ j, j ≤ n → RepAt (cs.getD j 0) (ws.getD j 0) (A j)

theorem getD_set (l : List Int) (k j : Nat) (x : Int) : (l.set k x).getD j 0 = if k = j ∧ j < l.length then x else l.getD j 0 := by
  simp only [List.getD, List.getElem?_set]
  by_cases h : k = j
  · subst h
    by_cases h2 : k < l.length
    · simp [h2]
    · simp [h2]
  · simp [h]
theorem RepAt.ways {c w : Int} {x : S} (h : RepAt c w x) : 0 ≤ w ∧ w ≤ 1000000000 := by
  rcases x with _ | ⟨a, u⟩
  · obtain ⟨_, rfl⟩ := h; omega
  · obtain ⟨_, rfl⟩ := h; exact cap9_range u

theorem Rep.meet {n : Nat} {cs ws : List Int} {A : Tab} (h : Rep n cs ws A) (j : Nat) (hj : j ≤ n) (b v : Nat) (hb : b < 1073741824) : Rep n (meetC cs j b) (meetW cs ws j b (cap9 v)) (upd A j (some (b, v))) := by
  have hcj := h.lc
  have hwj := h.lw
  have hA := h.at' j hj
  have lc : (meetC cs j b).length = n + 1 := by unfold meetC; split <;> simp [hcj]
  have lw : (meetW cs ws j b (cap9 v)).length = n + 1 := by unfold meetW; split; simp [hwj]; split <;> simp [hwj]
  refine ⟨lc, lw, fun k hk => ?_⟩
  by_cases hkj : k = j
  · subst hkj
    rw [show upd A k (some (b, v)) k = add (A k) (some (b, v)) from if_pos rfl]
    unfold meetC meetW
    rcases hx : A k with _ | ⟨a, u⟩
    · rw [hx] at hA
      obtain ⟨e1, e2⟩ := hA
      rw [e1, if_pos (by omega), if_pos (by omega), none_add, getD_set, getD_set, if_pos ⟨rfl, by omega⟩, if_pos ⟨rfl, by omega⟩]
      exact ⟨rfl, cap9_cap9 _⟩
    · rw [hx] at hA
      obtain ⟨e1, e2⟩ := hA
      rw [e1, add_some]
      by_cases h1 : b < a
      · rw [if_pos (by omega), if_pos (by omega), if_neg (by omega), if_pos h1, getD_set, getD_set, if_pos ⟨rfl, by omega⟩, if_pos ⟨rfl, by omega⟩]
        exact ⟨rfl, cap9_cap9 _⟩
      · by_cases h2 : a < b
        · rw [if_neg (by omega), if_neg (by omega), if_neg (by omega), if_pos h2]
          exact ⟨e1, e2⟩
        · have hab : a = b := by omega
          subst hab
          rw [if_neg (by omega), if_neg (by omega), if_pos rfl, if_neg (by omega), if_neg (by omega), getD_set, if_pos ⟨rfl, by omega⟩, e2]
          exact ⟨e1, cap9_add u v⟩
  · rw [show upd A j (some (b, v)) k = A k from if_neg hkj]
    have hr := h.at' k hk
    have e1 : (meetC cs j b).getD k 0 = cs.getD k 0 := by
      unfold meetC
      split
      · rw [getD_set, if_neg (fun h => hkj h.1.symm)]
      · rfl
    have e2 : (meetW cs ws j b (cap9 v)).getD k 0 = ws.getD k 0 := by
      unfold meetW
      split
      · rw [getD_set, if_neg (fun h => hkj h.1.symm)]
      · split
        · rw [getD_set, if_neg (fun h => hkj h.1.symm)]
        · rfl
    rw [e1, e2]; exact hr

/-- Nothing is known but of one place. -/
theorem Rep.blank (n at' : Nat) (h : at' ≤ n) : Rep n ((List.replicate (n + 1) 1073741824).set at' 0) ((List.replicate (n + 1) 0).set at' 1) (fun j => if j = at' then one else none) := by
  refine ⟨by simp, by simp, fun j hj => ?_⟩
  rw [getD_set, getD_set]
  by_cases hja : j = at'
  · subst hja
    rw [if_pos ⟨rfl, by simp; omega⟩, if_pos ⟨rfl, by simp; omega⟩, if_pos rfl]
    exact ⟨rfl, by unfold cap9; omega⟩
  · rw [if_neg (fun h => hja h.1.symm), if_neg (fun h => hja h.1.symm), if_neg hja]
    refine ⟨?_, ?_⟩
    · simp [List.getD, hj, Nat.lt_succ_of_le]
    · simp [List.getD, hj, Nat.lt_succ_of_le]

theorem push_append (x : S) (i : Nat) : ∀ (a b : List (Nat × Nat)) (A : Tab), push x i (a ++ b) A = push x i b (push x i a A)
  | [], b, A => rfl
  | e :: a, b, A => by simp only [List.cons_append, push, push_append x i a b]
theorem le_mono {x : S} {n m : Nat} (h : le x n) (hm : n ≤ m) : le x m := by
  obtain ⟨b, v, h1, h2⟩ := h
  exact ⟨b, v, h1, by omega⟩
theorem push_le (x : S) (i k n : Nat) : ∀ (es : List (Nat × Nat)) (A : Tab), le (A k) n → le (push x i es A k) n
  | [], A, h => h
  | e :: es, A, h => by
    rw [push]
    refine push_le x i k n es _ ?_
    by_cases hk : k = i + e.1
    · rw [show upd A (i + e.1) (sh e.2 x) k = add (A (i + e.1)) (sh e.2 x) from if_pos hk, ← hk]
      exact add_le_left _ h
    · rw [show upd A (i + e.1) (sh e.2 x) k = A k from if_neg hk]
      exact h
/-- From the beginning on a place costs at most 9 a byte. -/
theorem from_le (p : List UInt8) : ∀ i, i ≤ p.length → le ((net p).from i i) (9 * i)
  | 0, _ => ⟨0, 1, by simp [Net.from, one], Nat.le_refl _⟩
  | i + 1, h => by
    have ih := from_le p i (by omega)
    have hE : (net p).E i = (1, 9) :: ((List.range (min 32 i)).flatMap fun d => copies p i (d + 1)).map fun t => (t.len.toNat, t.cost) := by
      show (outToks p i).map (fun t => (t.len.toNat, t.cost)) = _
      unfold outToks
      rw [List.map_cons]
      rfl
    rw [Net.from, hE, push]
    refine push_le _ _ _ _ _ _ ?_
    rw [show upd ((net p).from i) (i + 1) (sh 9 ((net p).from i i)) (i + 1) = add ((net p).from i (i + 1)) (sh 9 ((net p).from i i)) from if_pos rfl]
    exact add_le_right _ (le_mono (sh_le 9 ih) (by omega))
theorem from_some (p : List UInt8) (i : Nat) (h : i ≤ p.length) : ∃ a u, (net p).from i i = some (a, u) ∧ a ≤ 9 * i := from_le p i h

/-- The copies' steps from one distance, the first k of them; all from the distances 1 to D. -/
def stepsD (d k : Nat) : List (Nat × Nat) := (List.range k).map fun l => (l + 2, 1 + Tok.numLen (l + 1) + Tok.numLen d)
def stepsTo (p : List UInt8) (i D : Nat) : List (Nat × Nat) := (List.range D).flatMap fun d => stepsD (d + 1) (alk p i (d + 1) - 1)
theorem stepsD_succ (d k : Nat) : stepsD d (k + 1) = stepsD d k ++ [(k + 2, 1 + Tok.numLen (k + 1) + Tok.numLen d)] := by simp [stepsD, List.range_succ]
theorem stepsTo_succ (p : List UInt8) (i D : Nat) : stepsTo p i (D + 1) = stepsTo p i D ++ stepsD (D + 1) (alk p i (D + 1) - 1) := by simp [stepsTo, List.range_succ]
theorem cost_copy (l d : Nat) (h : 1 ≤ d) : Tok.cost ⟨(l : Int) + 2, (d : Int), 0⟩ = 1 + Tok.numLen (l + 1) + Tok.numLen d := by
  have hd : ¬ (d : Int) = 0 := by omega
  simp only [Tok.cost]
  rw [if_neg hd, show ((l : Int) + 2 - 1).toNat = l + 1 by omega, Int.toNat_natCast]
theorem net_steps (p : List UInt8) (i : Nat) : (net p).E i = (1, 9) :: stepsTo p i (min 32 i) := by
  show (outToks p i).map (fun t => (t.len.toNat, t.cost)) = _
  unfold outToks stepsTo
  rw [List.map_cons, List.map_flatMap]
  refine congrArg (fun f => (1, 9) :: List.flatMap f (List.range (min 32 i))) (funext fun d => ?_)
  unfold copies stepsD
  rw [List.map_map]
  apply List.map_congr_left
  intro l _
  simp only [Function.comp]
  refine Prod.ext ?_ ?_
  · simp only; omega
  · exact cost_copy l (d + 1) (by omega)
end Go.Proofs.Ytnpnaglgllcpfab
