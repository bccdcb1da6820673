/-
  Lemmas for the law All: Gi, Gm, Gt.
-/
import Derived.Test.YtnpnaglgllcpfaaGreatM17
import Derived.Test.YtnpnaglgllcpfaaGreatM25
import Derived.Deep.AppendLies
import Derived.Deep.RegionLaw
/- The law's World: what it holds, and where each of its things lies. -/
namespace Go.Proofs.YtnpnaglgllcpfaaGreat
set_option maxRecDepth 100000
open Go.RowKit

/-- These blocks alone may have changed; what is owned behind it was owned ahead of it, or is new. -/
structure Moved (w w' : World) (o o' : Nat → Prop) : Prop where
  os : w'.os = w.os
  tape : w'.tape = w.tape
  output : w'.output = w.output
  size : w.heap.size ≤ w'.heap.size
  heap : ∀ k, k < w.heap.size → ¬ o k → w'.heap[k]? = w.heap[k]?
  new : ∀ k, o' k → o k ∨ w.heap.size ≤ k
theorem Moved.refl (w : World) (o : Nat → Prop) : Moved w w o o := ⟨rfl, rfl, rfl, Nat.le_refl _, fun _ _ _ => rfl, fun _ h => .inl h⟩
theorem Moved.trans {w w1 w2 : World} {o o1 o2 : Nat → Prop} (h : Moved w w1 o o1) (k : Moved w1 w2 o1 o2) : Moved w w2 o o2 :=
  ⟨k.os.trans h.os, k.tape.trans h.tape, k.output.trans h.output, Nat.le_trans h.size k.size,
    fun i hi hn => (k.heap i (Nat.lt_of_lt_of_le hi h.size) (fun h1 => by rcases h.new i h1 with h2 | h2; exact hn h2; omega)).trans (h.heap i hi hn),
    fun i hi => by
      rcases k.new i hi with h1 | h1
      · exact h.new i h1
      · have := h.size; exact .inr (by omega)⟩
theorem Moved.below {w w' : World} (h : Below w.heap.size w w') (o : Nat → Prop) : Moved w w' o o := ⟨h.os, h.tape, h.output, h.size, fun k hk _ => h.block k hk, fun _ h => .inl h⟩
theorem Moved.mono {w w' : World} {o o' p p' : Nat → Prop} (h : Moved w w' o o') (h1 : ∀ k, o k → p k) (h2 : ∀ k, p' k → o' k) : Moved w w' p p' :=
  ⟨h.os, h.tape, h.output, h.size, fun k hk hn => h.heap k hk (fun h3 => hn (h1 k h3)), fun k hk => (h.new k (h2 k hk)).imp (h1 k) id⟩
theorem Moved.kept {w w' : World} {F : List Nat} {o o' : Nat → Prop} (h : KeptBut w w' F) (hF : ∀ k ∈ F, o k) (hn : ∀ k, o' k → o k ∨ w.heap.size ≤ k) : Moved w w' o o' :=
  ⟨h.os, h.tape, h.output, h.size, fun k hk hno => h.heap k hk (fun hf => hno (hF k hf)), hn⟩
theorem Moved.set {w w' : World} {o o' : Nat → Prop} {q i : Nat} (h : Moved w w' o o') (hq : o q) (u : Value) : Moved w (w'.setCell ⟨q, i, none⟩ u) o o' :=
  ⟨h.os, h.tape, h.output, by rw [set_size]; exact h.size, fun k hk hn => by rw [set_other u (by rintro rfl; exact hn hq)]; exact h.heap k hk hn, h.new⟩
/-- What is not owned is Below, where all that is owned is new. -/
theorem Moved.low {w0 w w' : World} {o o' : Nat → Prop} {B : Nat} (h : Moved w w' o o') (hb : Below B w0 w) (hB : B ≤ w.heap.size) (ho : ∀ k, o k → B ≤ k) : Below B w0 w' ∧ (∀ k, o' k → B ≤ k) :=
  ⟨⟨h.os.trans hb.os, h.tape.trans hb.tape, h.output.trans hb.output, Nat.le_trans hb.size h.size, fun k hk => (h.heap k (by omega) (fun h1 => by have := ho k h1; omega)).trans (hb.block k hk)⟩,
    fun k hk => by rcases h.new k hk with h1 | h1; exact ho k h1; omega⟩

structure St where
  v : Nat → Value
  xs : Nat → List Value
  bl : Nat × Nat → List Nat
def St.own (S : St) (k : Nat) : Prop := ∃ x, k ∈ S.bl x
def elemT : Nat → TypeId
  | 0 => 51
  | 1 => 56
  | 2 => 37
  | 3 => 32
  | _ => 27
def FullB (w : World) (x : Value) (i : Nat) : Prop := ∃ a n, x = .slice a n n ∧ OwnB w 0 x (List.replicate n (UInt8.ofNat i))
def FullT (w : World) (x : Value) (i : Nat) : Prop := ∃ a n, x = .slice a n n ∧ TokRow w 0 x (List.replicate n ⟨-1 - (i : Int), 0, 0⟩)
def FullP (w : World) (x : Value) (i : Nat) (F : List Nat) : Prop := ∃ a n vs, x = .slice a n n ∧ w.ownsRow 0 32 1 x n vs ∧
  ∀ m, m < n → ∃ g, vs[m]? = some (.slice (some ⟨g, 0, none⟩) 1 1) ∧ w.heap[g]? = some (.cells #[.int .i64 (-1 - (i : Int)), .int .i64 0, .int .i64 0] 42 (0, 0)) ∧ g ∈ F
/-- The i-th of the j-th sort, in the blocks F. -/
def Good (w : World) (j : Nat) (x : Value) (i : Nat) (F : List Nat) : Prop :=
  match j with
  | 0 => ∃ cb, x = .pointer (some ⟨cb, 0, none⟩) ∧ LEnc w cb F
  | 1 => ∃ cb, x = .pointer (some ⟨cb, 0, none⟩) ∧ LDec w cb F
  | 2 => FullB w x i ∧ ∀ k, x.ownBlock = some k → k ∈ F
  | 3 => FullT w x i ∧ ∀ k, x.ownBlock = some k → k ∈ F
  | _ => FullP w x i F ∧ ∀ k, x.ownBlock = some k → k ∈ F
theorem row_same {w w' : World} {B n z : Nat} {e : TypeId} {v : Value} {xs : List Value} (h : w.ownsRow B e z v n xs) (hk : ∀ k, v.ownBlock = some k → w'.heap[k]? = w.heap[k]?) : w'.ownsRow B e z v n xs := by
  refine ⟨h.1, ?_⟩
  rcases h.2 with h' | ⟨g, cap, cur, h1, h2, hg, r⟩
  · exact .inl h'
  · refine .inr ⟨g, cap, cur, h1, h2, ?_, r⟩
    rw [hk g (by rw [h1]; rfl)]
    exact hg
structure Same (w w' : World) : Prop where
  os : w'.os = w.os
  tape : w'.tape = w.tape
  output : w'.output = w.output
  size : w.heap.size ≤ w'.heap.size
theorem Moved.same {w w' : World} {o o' : Nat → Prop} (h : Moved w w' o o') : Same w w' := ⟨h.os, h.tape, h.output, h.size⟩
theorem KeptBut.same {w w' : World} {F : List Nat} (h : KeptBut w w' F) : Same w w' := ⟨h.os, h.tape, h.output, h.size⟩
/-- All but these blocks may have changed. -/
theorem keptBut_only {w w' : World} (h : Same w w') {F : List Nat} (hF : ∀ k ∈ F, w'.heap[k]? = w.heap[k]?) : KeptBut w w' ((List.range w.heap.size).filter fun k => !F.contains k) :=
  ⟨h.os, h.tape, h.output, h.size, fun k hk hn => hF k (by
    simp only [List.mem_filter, List.mem_range] at hn
    by_cases hc : k ∈ F
    · exact hc
    · exact absurd ⟨hk, by simp [hc]⟩ hn)⟩
theorem Good.frame {w w' : World} {j i : Nat} {x : Value} {F : List Nat} (h : Good w j x i F) (hs : Same w w') (hF : ∀ k ∈ F, w'.heap[k]? = w.heap[k]?) : Good w' j x i F := by
  have hk := keptBut_only hs hF
  have hn : ∀ k ∈ F, k ∉ (List.range w.heap.size).filter fun k => !F.contains k := fun k hk h => by
    simp only [List.mem_filter] at h
    simp [hk] at h
  match j, h with
  | 0, ⟨cb, h1, h2⟩ => exact ⟨cb, h1, h2.kept hk hn⟩
  | 1, ⟨cb, h1, h2⟩ => exact ⟨cb, h1, h2.kept hk hn⟩
  | 2, ⟨⟨a, n, h1, h2⟩, h3⟩ => exact ⟨⟨a, n, h1, row_same h2 (fun k hk => hF k (h3 k hk))⟩, h3⟩
  | 3, ⟨⟨a, n, h1, h2⟩, h3⟩ => exact ⟨⟨a, n, h1, row_same h2 (fun k hk => hF k (h3 k hk))⟩, h3⟩
  | j + 4, ⟨⟨a, n, vs, h1, h2, h4⟩, h3⟩ =>
    refine ⟨⟨a, n, vs, h1, row_same h2 (fun k hk => hF k (h3 k hk)), fun m hm => ?_⟩, h3⟩
    obtain ⟨g, g1, g2, g3⟩ := h4 m hm
    exact ⟨g, g1, (hF g g3).trans g2, g3⟩

/-- The law's World in block Q. -/
structure Inv (w : World) (Q : Nat) (S : St) (N : Nat) : Prop where
  box : w.heap[Q]? = some (.cells #[S.v 0, S.v 1, S.v 2, S.v 3, S.v 4] 30 (0, 0))
  q : Q ∈ S.bl (0, 0)
  row : ∀ j, j < 5 → w.ownsRow 0 (elemT j) 1 (S.v j) (S.xs j).length (S.xs j)
  rowb : ∀ j k, j < 5 → (S.v j).ownBlock = some k → k ∈ S.bl (1, j)
  good : ∀ j i, j < 5 → i < (S.xs j).length → Good w j ((S.xs j).getD i (.int .i64 0)) i (S.bl (2 + j, i))
  apart : ∀ x y k, k ∈ S.bl x → k ∈ S.bl y → x = y
  lt : ∀ x k, k ∈ S.bl x → k < w.heap.size
  len : ∀ j, j < 5 → (S.xs j).length ≤ N
theorem Inv.own_lt {w : World} {Q N k : Nat} {S : St} (h : Inv w Q S N) (hk : S.own k) : k < w.heap.size := by
  obtain ⟨x, hx⟩ := hk
  exact h.lt x k hx
theorem Inv.same {w w' : World} {Q N : Nat} {S : St} (h : Inv w Q S N) (hs : Same w w') (hk : ∀ k, S.own k → w'.heap[k]? = w.heap[k]?) : Inv w' Q S N where
  box := (hk Q ⟨_, h.q⟩).trans h.box
  q := h.q
  row j hj := row_same (h.row j hj) (fun k hv => hk k ⟨_, h.rowb j k hj hv⟩)
  rowb := h.rowb
  good j i hj hi := (h.good j i hj hi).frame hs (fun k hF => hk k ⟨_, hF⟩)
  apart := h.apart
  lt x k hx := Nat.lt_of_lt_of_le (h.lt x k hx) hs.size
  len := h.len
theorem Inv.frame {w w' : World} {Q N : Nat} {S : St} {o o' : Nat → Prop} (h : Inv w Q S N) (hm : Moved w w' o o') (ho : ∀ k, S.own k → ¬ o k) : Inv w' Q S N :=
  h.same hm.same (fun k hk => hm.heap k (h.own_lt hk) (ho k hk))
theorem Inv.below {w w' : World} {Q N : Nat} {S : St} (h : Inv w Q S N) (hb : Below w.heap.size w w') : Inv w' Q S N :=
  h.frame (Moved.below hb (fun _ => False)) (fun _ _ h => h)
theorem Inv.more {w : World} {Q N M : Nat} {S : St} (h : Inv w Q S N) (hM : N ≤ M) : Inv w Q S M := { h with len := fun j hj => Nat.le_trans (h.len j hj) hM }

/-- One more of the j-th sort. -/
def St.push (S : St) (j : Nat) (x v' : Value) (F : List Nat) : St where
  v := fun y => if y = j then v' else S.v y
  xs := fun y => if y = j then S.xs j ++ [x] else S.xs y
  bl := fun y => if y = (1, j) then v'.ownBlock.toList else if y = (2 + j, (S.xs j).length) then F else S.bl y
theorem St.push_own {S : St} {j k : Nat} {x v' : Value} {F : List Nat} (h : (S.push j x v' F).own k) : S.own k ∨ v'.ownBlock = some k ∨ k ∈ F := by
  obtain ⟨y, hy⟩ := h
  simp only [St.push] at hy
  split at hy
  · simp at hy; exact .inr (.inl hy)
  · split at hy
    · exact .inr (.inr hy)
    · exact .inl ⟨y, hy⟩
theorem Inv.push {w w' : World} {Q N : Nat} {S : St} (h : Inv w Q S N) (j : Nat) (hj : j < 5) (x v' : Value) (F : List Nat) (hs : Same w w')
    (hkeep : ∀ k, S.own k → k ≠ Q → k ∉ S.bl (1, j) → w'.heap[k]? = w.heap[k]?)
    (hbox : w'.heap[Q]? = some (.cells #[(S.push j x v' F).v 0, (S.push j x v' F).v 1, (S.push j x v' F).v 2, (S.push j x v' F).v 3, (S.push j x v' F).v 4] 30 (0, 0)))
    (hrow : w'.ownsRow 0 (elemT j) 1 v' ((S.xs j).length + 1) (S.xs j ++ [x]))
    (hvb : ∀ k, v'.ownBlock = some k → (k ∈ S.bl (1, j) ∨ ¬ S.own k) ∧ k ∉ F)
    (hg : Good w' j x (S.xs j).length F) (hF : ∀ k ∈ F, ¬ S.own k ∧ k < w'.heap.size) : Inv w' Q (S.push j x v' F) (N + 1) := by
  have hmem : ∀ y k, k ∈ (S.push j x v' F).bl y → (y = (1, j) ∧ v'.ownBlock = some k) ∨ (y = (2 + j, (S.xs j).length) ∧ k ∈ F) ∨ (k ∈ S.bl y ∧ y ≠ (1, j) ∧ y ≠ (2 + j, (S.xs j).length)) := by
    intro y k hy
    simp only [St.push] at hy
    split at hy
    · rename_i e; simp at hy; exact .inl ⟨e, hy⟩
    · split at hy
      · rename_i e; exact .inr (.inl ⟨e, hy⟩)
      · rename_i e1 e2; exact .inr (.inr ⟨hy, e1, e2⟩)
  have hlen : ∀ y, y ≠ j → (S.push j x v' F).xs y = S.xs y := fun y hy => by simp [St.push, hy]
  have hne : ∀ y k, y ≠ (0, 0) → y ≠ (1, j) → k ∈ S.bl y → w'.heap[k]? = w.heap[k]? := fun y k h0 h1 hk =>
    hkeep k ⟨y, hk⟩ (fun e => by subst e; exact h0 (h.apart _ _ _ hk h.q)) (fun h2 => h1 (h.apart _ _ _ hk h2))
  refine ⟨hbox, ?_, ?_, ?_, ?_, ?_, ?_, ?_⟩
  · simp only [St.push]
    rw [if_neg (by simp), if_neg (by simp; omega)]
    exact h.q
  · intro y hy
    by_cases e : y = j
    · subst e
      simpa [St.push] using hrow
    · have h1 : (S.push j x v' F).v y = S.v y := by simp [St.push, e]
      rw [hlen y e, h1]
      exact row_same (h.row y hy) (fun k hk => hne (1, y) k (by simp) (by simpa using e) (h.rowb y k hy hk))
  · intro y k hy hk
    by_cases e : y = j
    · subst e
      simp only [St.push] at hk ⊢
      simpa using hk
    · have h1 : (S.push j x v' F).v y = S.v y := by simp [St.push, e]
      rw [h1] at hk
      simp only [St.push]
      rw [if_neg (by simpa using e), if_neg (by simp; omega)]
      exact h.rowb y k hy hk
  · intro y i hy hi
    by_cases e : y = j ∧ i = (S.xs j).length
    · obtain ⟨rfl, rfl⟩ := e
      have h1 : (S.push y x v' F).xs y = S.xs y ++ [x] := by simp [St.push]
      have h2 : (S.push y x v' F).bl (2 + y, (S.xs y).length) = F := by
        simp only [St.push]
        rw [if_neg (by simp; omega)]
        simp
      rw [h1, h2]
      simpa [List.getD] using hg
    · have h2 : (S.push j x v' F).bl (2 + y, i) = S.bl (2 + y, i) := by
        simp only [St.push]
        rw [if_neg (by simp; omega), if_neg (by simp; omega)]
      have h1 : i < (S.xs y).length ∧ ((S.push j x v' F).xs y).getD i (.int .i64 0) = (S.xs y).getD i (.int .i64 0) := by
        by_cases e' : y = j
        · subst e'
          have h3 : (S.push y x v' F).xs y = S.xs y ++ [x] := by simp [St.push]
          rw [h3] at hi ⊢
          simp at hi
          have h4 : i < (S.xs y).length := by omega
          exact ⟨h4, by simp [List.getD, List.getElem?_append_left h4]⟩
        · rw [hlen y e'] at hi ⊢
          exact ⟨hi, rfl⟩
      rw [h2, h1.2]
      exact (h.good y i hy h1.1).frame hs (fun k hk => hne _ k (by simp) (by simp; omega) hk)
  · intro y z k hy hz
    rcases hmem y k hy with ⟨rfl, h1⟩ | ⟨rfl, h1⟩ | ⟨h1, h2, h3⟩ <;> rcases hmem z k hz with ⟨rfl, g1⟩ | ⟨rfl, g1⟩ | ⟨g1, g2, g3⟩
    · rfl
    · exact absurd g1 (hvb k h1).2
    · rcases (hvb k h1).1 with h4 | h4
      · exact h.apart _ _ _ h4 g1
      · exact absurd ⟨z, g1⟩ h4
    · exact absurd h1 (hvb k g1).2
    · rfl
    · exact absurd ⟨z, g1⟩ (hF k h1).1
    · rcases (hvb k g1).1 with h4 | h4
      · exact h.apart _ _ _ h1 h4
      · exact absurd ⟨y, h1⟩ h4
    · exact absurd ⟨y, h1⟩ (hF k g1).1
    · exact h.apart _ _ _ h1 g1
  · intro y k hy
    rcases hmem y k hy with ⟨rfl, h1⟩ | ⟨rfl, h1⟩ | ⟨h1, _⟩
    · exact (World.ownsRow.lt hrow k h1).2
    · exact (hF k h1).2
    · exact Nat.lt_of_lt_of_le (h.lt y k h1) hs.size
  · intro y hy
    by_cases e : y = j
    · subst e
      have h3 : (S.push y x v' F).xs y = S.xs y ++ [x] := by simp [St.push]
      have := h.len y hy
      rw [h3]
      simp
      omega
    · rw [hlen y e]
      have := h.len y hy
      omega
/-- The i-th of the j-th sort lies elsewhere. -/
def St.turn (S : St) (j i : Nat) (F : List Nat) : St := { S with bl := fun y => if y = (2 + j, i) then F else S.bl y }
theorem St.turn_own {S : St} {j i k : Nat} {F : List Nat} (h : (S.turn j i F).own k) : S.own k ∨ k ∈ F := by
  obtain ⟨y, hy⟩ := h
  simp only [St.turn] at hy
  split at hy
  · exact .inr hy
  · exact .inl ⟨y, hy⟩
theorem Inv.turn {w w' : World} {Q N : Nat} {S : St} (h : Inv w Q S N) (j i : Nat) (hj : j < 5) (F : List Nat) (hs : Same w w')
    (hkeep : ∀ k, S.own k → k ∉ S.bl (2 + j, i) → w'.heap[k]? = w.heap[k]?) (hg : Good w' j ((S.xs j).getD i (.int .i64 0)) i F)
    (hF : ∀ k ∈ F, (k ∈ S.bl (2 + j, i) ∨ ¬ S.own k) ∧ k < w'.heap.size) : Inv w' Q (S.turn j i F) N := by
  have hne : ∀ y k, y ≠ (2 + j, i) → k ∈ S.bl y → w'.heap[k]? = w.heap[k]? := fun y k h0 hk => hkeep k ⟨y, hk⟩ (fun h2 => h0 (h.apart _ _ _ hk h2))
  have hmem : ∀ y k, k ∈ (S.turn j i F).bl y → (y = (2 + j, i) ∧ k ∈ F) ∨ (k ∈ S.bl y ∧ y ≠ (2 + j, i)) := by
    intro y k hy
    simp only [St.turn] at hy
    split at hy
    · rename_i e; exact .inl ⟨e, hy⟩
    · rename_i e; exact .inr ⟨hy, e⟩
  refine ⟨?_, ?_, ?_, ?_, ?_, ?_, ?_, h.len⟩
  · exact (hne (0, 0) Q (by simp; omega) h.q).trans h.box
  · simp only [St.turn]
    rw [if_neg (by simp; omega)]
    exact h.q
  · intro y hy
    exact row_same (h.row y hy) (fun k hk => hne (1, y) k (by simp; omega) (h.rowb y k hy hk))
  · intro y k hy hk
    simp only [St.turn]
    rw [if_neg (by simp; omega)]
    exact h.rowb y k hy hk
  · intro y m hy hm
    by_cases e : y = j ∧ m = i
    · obtain ⟨rfl, rfl⟩ := e
      have h2 : (S.turn y m F).bl (2 + y, m) = F := by simp [St.turn]
      rw [h2]
      exact hg
    · have h2 : (S.turn j i F).bl (2 + y, m) = S.bl (2 + y, m) := by
        simp only [St.turn]
        rw [if_neg (by simp; omega)]
      rw [h2]
      exact (h.good y m hy hm).frame hs (fun k hk => hne _ k (by simp; omega) hk)
  · intro y z k hy hz
    rcases hmem y k hy with ⟨rfl, h1⟩ | ⟨h1, h2⟩ <;> rcases hmem z k hz with ⟨rfl, g1⟩ | ⟨g1, g2⟩
    · rfl
    · rcases (hF k h1).1 with h4 | h4
      · exact h.apart _ _ _ h4 g1
      · exact absurd ⟨z, g1⟩ h4
    · rcases (hF k g1).1 with h4 | h4
      · exact h.apart _ _ _ h1 h4
      · exact absurd ⟨y, h1⟩ h4
    · exact h.apart _ _ _ h1 g1
  · intro y k hy
    rcases hmem y k hy with ⟨rfl, h1⟩ | ⟨h1, _⟩
    · exact (hF k h1).2
    · exact Nat.lt_of_lt_of_le (h.lt y k h1) hs.size
end Go.Proofs.YtnpnaglgllcpfaaGreat

/- Bytes that came out are written full, and kept. -/
namespace Go.Proofs.YtnpnaglgllcpfaaGreat
set_option maxRecDepth 100000
open Go.RowKit

theorem five_cell {w : World} {q : Nat} {a b c d e : Value} {t : TypeId} (h : w.heap[q]? = some (.cells #[a, b, c, d, e] t (0, 0))) :
    (w.cell? ⟨q, 0, none⟩ = some a ∧ w.cell? ⟨q, 1, none⟩ = some b ∧ w.cell? ⟨q, 2, none⟩ = some c ∧ w.cell? ⟨q, 3, none⟩ = some d ∧ w.cell? ⟨q, 4, none⟩ = some e) ∧ (w.frozen? ⟨q, 0, none⟩ = false ∧ w.frozen? ⟨q, 1, none⟩ = false ∧ w.frozen? ⟨q, 2, none⟩ = false ∧ w.frozen? ⟨q, 3, none⟩ = false ∧ w.frozen? ⟨q, 4, none⟩ = false) := by
  simp [World.cell?, World.frozen?, h]
/-- A row up to its capacity. -/
theorem full_row {w : World} {B n c z : Nat} {e : TypeId} {a : Option Addr} {xs : List Value} (h : w.ownsRow B e z (.slice a n c) n xs) : ∃ ys, w.ownsRow 0 e z (.slice a c c) c ys ∧ n ≤ c ∧ c ≤ maxLen := by
  rcases h.2 with ⟨h1, h2⟩ | ⟨g, cap, cur, h1, h2, hg, h3, h4, h5, h6⟩
  · simp at h1
    obtain ⟨rfl, rfl, rfl⟩ := h1
    exact ⟨[], World.ownsRow_nil _ _ _ _, by omega, Nat.zero_le _⟩
  · simp at h1
    obtain ⟨rfl, rfl⟩ := h1
    exact ⟨cur.toList, ⟨by simp [h5], .inr ⟨g, c, cur, rfl, Nat.zero_le _, hg, Nat.le_refl _, h4, h5, by rw [List.take_of_length_le]; simp [h5]⟩⟩, h3, h4⟩
theorem Inv.rowNe {w : World} {Q N j : Nat} {S : St} (h : Inv w Q S N) (hj : j < 5) : (S.v j).ownBlock ≠ some Q := fun e => by
  have := h.apart _ _ _ (h.rowb j Q hj e) h.q
  simp at this
theorem Inv.qlt {w : World} {Q N : Nat} {S : St} (h : Inv w Q S N) : Q < w.heap.size := h.lt _ _ h.q
theorem push_done {w1 wa w2 : World} {Q N j g cap : Nat} {S : St} {x : Value} {F : List Nat} (h : Inv w1 Q S N) (hj : j < 5) (ha : Below w1.heap.size w1 wa) (hg : wa.grownBy w2 (S.v j).ownBlock)
    (hrow : w2.ownsRow 0 (elemT j) 1 (.slice (some ⟨g, 0, none⟩) ((S.xs j).length + 1) cap) ((S.xs j).length + 1) (S.xs j ++ [x])) (hat : (S.v j).ownBlock = some g ∨ w1.heap.size ≤ g)
    (hgood : Good w1 j x (S.xs j).length F) (hF : ∀ k ∈ F, ¬ S.own k ∧ k < w1.heap.size) :
    Inv (w2.setCell ⟨Q, j, none⟩ (.slice (some ⟨g, 0, none⟩) ((S.xs j).length + 1) cap)) Q (S.push j x (.slice (some ⟨g, 0, none⟩) ((S.xs j).length + 1) cap) F) (N + 1) ∧
    Moved w1 (w2.setCell ⟨Q, j, none⟩ (.slice (some ⟨g, 0, none⟩) ((S.xs j).length + 1) cap)) (fun k => S.own k ∨ k ∈ F) (S.push j x (.slice (some ⟨g, 0, none⟩) ((S.xs j).length + 1) cap) F).own := by
  have hq := h.qlt
  have hsa := ha.size
  have hs2 := hg.size
  have hgQ : g ≠ Q := fun e => by
    subst e
    rcases hat with h1 | h1
    · exact h.rowNe hj h1
    · omega
  have hk2 : ∀ k, k < w1.heap.size → (S.v j).ownBlock ≠ some k → w2.heap[k]? = w1.heap[k]? := fun k hk hn => (hg.block k (by omega) (fun e => hn e.symm)).trans (ha.block k hk)
  have hs : Same w1 (w2.setCell ⟨Q, j, none⟩ (.slice (some ⟨g, 0, none⟩) ((S.xs j).length + 1) cap)) := ⟨hg.os.trans ha.os, hg.tape.trans ha.tape, hg.output.trans ha.output, by rw [set_size]; omega⟩
  have hbx : w2.heap[Q]? = _ := (hk2 Q hq (h.rowNe hj)).trans h.box
  have hset := set_block (i := j) hbx (.slice (some ⟨g, 0, none⟩) ((S.xs j).length + 1) cap)
  have hFQ : Q ∉ F := fun hm => (hF Q hm).1 ⟨_, h.q⟩
  have hFv : ∀ k ∈ F, (S.v j).ownBlock ≠ some k := fun k hk e => (hF k hk).1 ⟨_, h.rowb j k hj e⟩
  refine ⟨h.push j hj x _ F hs ?_ ?_ ?_ ?_ ?_ ?_, ⟨hs.os, hs.tape, hs.output, hs.size, ?_, ?_⟩⟩
  · intro k hk hkQ hkr
    rw [set_other _ hkQ]
    exact hk2 k (h.own_lt hk) (fun e => hkr (h.rowb j k hj e))
  · rw [hset]
    obtain rfl | rfl | rfl | rfl | rfl : j = 0 ∨ j = 1 ∨ j = 2 ∨ j = 3 ∨ j = 4 := by omega
    all_goals simp [St.push]
  · refine row_same hrow (fun k hk => ?_)
    simp [Value.ownBlock] at hk
    subst hk
    exact set_other _ hgQ
  · intro k hk
    simp [Value.ownBlock] at hk
    subst hk
    rcases hat with h1 | h1
    · exact ⟨.inl (h.rowb j g hj h1), fun hm => hFv g hm h1⟩
    · exact ⟨.inr (fun ho => by have := h.own_lt ho; omega), fun hm => by have := (hF g hm).2; omega⟩
  · refine hgood.frame hs (fun k hk => ?_)
    rw [set_other _ (by rintro rfl; exact hFQ hk)]
    exact hk2 k (hF k hk).2 (hFv k hk)
  · intro k hk
    exact ⟨(hF k hk).1, by have := (hF k hk).2; have := hs.size; omega⟩
  · intro k hk hn
    rw [set_other _ (by rintro rfl; exact hn (.inl ⟨_, h.q⟩))]
    exact hk2 k hk (fun e => hn (.inl ⟨_, h.rowb j k hj e⟩))
  · intro k hk
    rcases St.push_own hk with h1 | h1 | h1
    · exact .inl (.inl h1)
    · simp [Value.ownBlock] at h1
      subst h1
      rcases hat with h2 | h2
      · exact .inl (.inl ⟨_, h.rowb j g hj h2⟩)
      · exact .inr h2
    · exact .inl (.inr h1)
theorem infoBs : (Tryz.prog.info? 37).map (fun i => (i.zero, i.size, i.bytes)) = some (some (.slice none 0 0), 1, 24) := by kernel_rfl
theorem byte_wrap (K : Nat) : IntKind.u8.wrap (K : Int) = ((UInt8.ofNat K).toNat : Int) := by
  rw [IntKind.wrap_u8]
  simp
theorem grown_moved {w w' : World} {r : Option Nat} (h : w.grownBy w' r) (o : Nat → Prop) (hr : ∀ k, r = some k → o k) : Moved w w' o o := ⟨h.os, h.tape, h.output, h.size, fun k hk hn => h.block k hk (fun e => hn (hr k e.symm)), fun _ h => .inl h⟩

set_option maxHeartbeats 1000000 in
theorem mine_calls (Q N : Nat) (S : St) (a : Option Addr) (l : List UInt8) (c B : Nat) (w : World) (hI : Inv w Q S N) (hN : N ≤ 1000000000000) (hl : OwnB w B (.slice a l.length c) l) (hno : ∀ k, (Value.slice a l.length c).ownBlock = some k → ¬ S.own k) :
    Calls Tryz.prog 14 #[.pointer (some ⟨Q, 0, none⟩), .slice a l.length c] w fun e w' => e = .returned (.tuple #[]) ∧ ∃ S', Inv w' Q S' (N + 1) ∧ Moved w w' (fun k => S.own k ∨ (Value.slice a l.length c).ownBlock = some k) S'.own := by
  obtain ⟨ib, hi, hz0, hz1, hz2⟩ := info_parts infoBs
  have HI : Hid (Inv w Q S N) := hI
  obtain ⟨ys, hful, hlc, hcm⟩ := full_row hl
  have HL : Hid (w.ownsRow 0 5 1 (.slice a c c) c ys) := hful
  have HNO : Hid (∀ k, (Value.slice a c c).ownBlock = some k → ¬ S.own k) := by cases a <;> exact hno
  have HEQ : Hid ((Value.slice a c c).ownBlock = (Value.slice a l.length c).ownBlock) := by cases a <;> rfl
  obtain ⟨vo, vc, hv⟩ := row_form (hI.row 2 (by omega))
  have HV : Hid (S.v 2 = .slice vo (S.xs 2).length vc) := hv
  have HROW : Hid (w.ownsRow 0 37 1 (.slice vo (S.xs 2).length vc) (S.xs 2).length (S.xs 2)) := by
    have := hI.row 2 (by omega)
    rw [hv] at this
    exact this
  have hKN := hI.len 2 (by omega)
  have hq := hI.qlt
  have HBX : Hid (∀ W : World, W.heap[Q]? = w.heap[Q]? → W.heap[Q]? = some (.cells #[S.v 0, S.v 1, .slice vo (S.xs 2).length vc, S.v 3, S.v 4] 30 (0, 0))) := fun W hW => by
    rw [hW, hI.box, hv]
  have hM := byte_wrap (S.xs 2).length
  have HQA : Hid ((Value.slice a c c).ownBlock ≠ some Q) := fun e => HNO.out Q e ⟨_, hI.q⟩
  have HX : Hid (∃ xs, xs = S.xs 2) := ⟨_, rfl⟩
  generalize hM' : UInt8.ofNat (S.xs 2).length = M at *
  have HM : Hid (UInt8.ofNat (S.xs 2).length = M) := hM'
  generalize hK : (S.xs 2).length = K at *
  have HK : Hid ((S.xs 2).length = K) := hK
  have hcm2 : c ≤ 9223372036854775807 := by unfold maxLen at hcm; omega
  have hKm : K ≤ 1000000000000 := by omega
  unfold maxLen at hcm
  clear hI hl hno hv hful hM' hK HX hKN
  go_enter Tryz.func14, Tryz.ntmps14
  have hb0 : (0 : Int) ≤ (c : Int) := by omega
  go_wp2_with fail
  go_loopg [5] c (fun g iv wr => ∃ k : Nat, k ≤ c ∧ g = c - k ∧ iv = .int .i64 k ∧ Hid (w.grownBy wr (Value.slice a c c).ownBlock) ∧ Hid (∃ zs, wr.ownsRow 0 5 1 (.slice a c c) c (List.replicate k (.int .u8 M.toNat) ++ zs)))
  case atStart => exact ⟨0, by omega, rfl, rfl, grown_refl _ _, ys, by simpa using HL.out⟩
  case round =>
    obtain ⟨k, hk, hg, rfl, HG1, HO1⟩ := hrel
    have HG : Hid _ := hg
    clear hg
    have hbx := HBX.out wr (HG1.out.block Q hq (fun e => HQA.out e.symm))
    obtain ⟨⟨x0, x1, x2, x3, x4⟩, y0, y1, y2, y3, y4⟩ := five_cell hbx
    have hqw : Q < wr.heap.size := block_lt hbx
    by_cases hlt : k < c
    · obtain ⟨zs, hrow⟩ := HO1.out
      obtain ⟨g, rfl⟩ : ∃ g, a = some ⟨g, 0, none⟩ := by
        rcases hrow.2 with ⟨h, h0⟩ | ⟨g, c', cur, h, _⟩
        · omega
        · simp at h; exact ⟨g, h.1⟩
      have hxl := hrow.1
      rw [List.length_append, List.length_replicate] at hxl
      obtain ⟨z, zs, rfl⟩ : ∃ z zs', zs = z :: zs' := by
        cases zs with
        | nil => simp at hxl; omega
        | cons z zs => exact ⟨z, zs, rfl⟩
      obtain ⟨u0, hu0⟩ : ∃ y, wr.cell? ⟨g, k, none⟩ = some y := ⟨_, by rw [hrow.cellAt k (by omega)]; exact List.getElem?_eq_getElem (by simp)⟩
      have hf0 := hrow.frozenAt k
      have hgl : g < wr.heap.size := World.block_lt_of_cell? wr _ hu0
      have hkI : 0 ≤ (k : Int) ∧ (k : Int) < (c : Int) := by omega
      have HR1 : Hid _ := hrow
      clear hrow hxl hbx x0 x1 x3 x4 y0 y1 y3 y4
      go_wp2
      go_roundg (c - (k + 1))
      case measure => have := HG.out; omega
      case rel =>
        refine ⟨k + 1, by omega, rfl, by go_num, grown_set HG1.out rfl _ _, zs, ?_⟩
        have := (World.ownsRow.stored HR1.out k (.int .u8 M.toNat)).1
        have e : (List.replicate k (Value.int .u8 M.toNat) ++ z :: zs).set k (.int .u8 M.toNat) = List.replicate (k + 1) (.int .u8 M.toNat) ++ zs := by
          rw [List.set_append_right _ _ (by simp)]
          simp [List.replicate_succ']
        rw [e] at this
        exact this
    · have hke : k = c := by omega
      subst hke
      have hlt' : ¬ (k : Int) < (k : Int) := by omega
      obtain ⟨zs, hrow⟩ := HO1.out
      have HFB : Hid (FullB wr (.slice a k k) K) := by
        refine ⟨a, k, rfl, ?_⟩
        have hxl := hrow.1
        rw [List.length_append, List.length_replicate] at hxl
        obtain rfl : zs = [] := List.eq_nil_of_length_eq_zero (by omega)
        rw [List.append_nil] at hrow
        rw [HM.out]
        show wr.ownsRow 0 5 1 _ _ _
        simpa [cellsB] using hrow
      have HI1 : Hid (Inv wr Q S N) := HI.out.frame (grown_moved HG1.out (fun x => (Value.slice a k k).ownBlock = some x) (fun _ h => h)) (fun x hx h => HNO.out x h hx)
      have HR1 : Hid (wr.ownsRow 0 37 1 (.slice vo K vc) K (S.xs 2)) := by
        have := HI1.out.row 2 (by omega)
        rw [HV.out, HK.out] at this
        exact this
      have HLT : Hid (∀ x, (Value.slice a k k).ownBlock = some x → x < wr.heap.size) := fun x hx => (World.ownsRow.lt hrow x hx).2
      clear hrow HO1 hlt hlt' HG HROW
      have HNE : Hid ((Value.slice vo K vc).ownBlock ≠ some Q) := by
        have := HI1.out.rowNe (j := 2) (by omega)
        rw [HV.out] at this
        exact this
      have HB1 : Hid _ := hbx
      clear hbx
      go_wp2_with (at_builtin; refine wpList_append_lies _ rfl _ _ 26 rfl 0 37 ib (.slice none 0 0) 1 24 Tryz.underlying26 hi hz0 hz1 hz2 rfl (by decide) _ _ _ rfl (World.ownsRow.alloc HR1.out _) ⟨wr.heap.size, 0, none⟩ 1 1 [.slice a k k] rfl rfl ?b1 ?b2 (by decide) ?b3 ?b4 ?b5 _ rfl ?_)
      case b1 => intro j u hj; exact cell_new1 _ _ _ j u hj
      case b2 => intro u hu; simp at hu; subst hu; rfl
      case b3 => unfold maxLen; omega
      case b4 => omega
      case b5 => exact Nat.zero_le _
      intro g cap w2 hown2 hgrow2 hat hlt2
      have hb2 : w2.heap[Q]? = _ := (hgrow2.block Q (by simp; omega) (fun e => HNE.out e.symm)).trans ((Below.heap_alloc _ _ _ hqw).trans HB1.out)
      obtain ⟨⟨k0, k1, k2, k3, k4⟩, l0, l1, l2, l3, l4⟩ := five_cell hb2
      have hqw2 : Q < w2.heap.size := block_lt hb2
      have HD : Hid _ := push_done (j := 2) (x := .slice a k k) (F := (Value.slice a k k).ownBlock.toList) (g := g) (cap := cap) HI1.out (by omega) ((Below.refl _ wr).alloc (Nat.le_refl _) _) (by rw [HV.out]; exact hgrow2) (by rw [HK.out]; exact hown2) (by
        rw [HV.out]
        rcases hat with h | h
        · exact .inl h
        · exact .inr (by rw [h]; simp)) (by rw [HK.out]; exact ⟨HFB.out, fun x hx => by simp [hx]⟩) (fun x hx => by simp at hx; exact ⟨HNO.out x hx, HLT.out x hx⟩)
      rw [HK.out] at HD
      clear hb2 hown2 hgrow2 hat x0 x1 x2 x3 x4 y0 y1 y2 y3 y4
      go_wp2
      go_end0
      refine ⟨rfl, _, HD.out.1, ?_⟩
      refine ((grown_moved HG1.out (fun x => S.own x ∨ (Value.slice a k k).ownBlock = some x) (fun x hx => .inr hx)).trans (HD.out.2.mono (p := fun x => S.own x ∨ (Value.slice a k k).ownBlock = some x) (fun x hx => ?_) (fun _ h => h))).mono (fun x hx => ?_) (fun _ h => h)
      · simpa using hx
      · rw [← HEQ.out]; exact hx
end Go.Proofs.YtnpnaglgllcpfaaGreat

/- Tokens that came out are written full, and kept. -/
namespace Go.Proofs.YtnpnaglgllcpfaaGreat
set_option maxRecDepth 100000
open Go.RowKit

theorem cellsT_length (ts : List Tok) : (cellsT ts).length = ts.length * 3 := by
  induction ts with
  | nil => rfl
  | cons t ts ih =>
    have e : cellsT (t :: ts) = [.int .i64 t.len, .int .i64 t.dist, .int .i64 t.byte] ++ cellsT ts := by simp [cellsT]
    rw [e, List.length_append, ih]
    simp
    omega
theorem cellsT_set3 (k : Nat) (l d b : Int) (z0 z1 z2 : Value) (zs : List Value) :
    (((cellsT (List.replicate k ⟨l, d, b⟩) ++ z0 :: z1 :: z2 :: zs).set (k * 3) (.int .i64 l)).set (k * 3 + 1) (.int .i64 d)).set (k * 3 + 2) (.int .i64 b) = cellsT (List.replicate (k + 1) ⟨l, d, b⟩) ++ zs := by
  have hl : (cellsT (List.replicate k ⟨l, d, b⟩)).length = k * 3 := by rw [cellsT_length, List.length_replicate]
  rw [List.replicate_succ', cellsT_snoc, List.set_append_right _ _ (by omega), List.set_append_right _ _ (by omega), List.set_append_right _ _ (by omega), hl]
  simp [Nat.add_sub_cancel_left]
set_option maxHeartbeats 1000000 in
theorem told_calls (Q N : Nat) (S : St) (a : Option Addr) (l : List Tok) (c B : Nat) (w : World) (hI : Inv w Q S N) (hN : N ≤ 1000000000000) (hl : TokRow w B (.slice a l.length c) l) (hno : ∀ k, (Value.slice a l.length c).ownBlock = some k → ¬ S.own k) :
    Calls Tryz.prog 32 #[.pointer (some ⟨Q, 0, none⟩), .slice a l.length c] w fun e w' => e = .returned (.tuple #[]) ∧ ∃ S', Inv w' Q S' (N + 1) ∧ Moved w w' (fun k => S.own k ∨ (Value.slice a l.length c).ownBlock = some k) S'.own := by
  obtain ⟨ib, hi, hz0, hz1, hz2⟩ := info_parts infoToks
  have HI : Hid (Inv w Q S N) := hI
  obtain ⟨ys, hful, hlc, hcm⟩ := full_row hl
  have HL : Hid (w.ownsRow 0 42 3 (.slice a c c) c ys) := hful
  have HNO : Hid (∀ k, (Value.slice a c c).ownBlock = some k → ¬ S.own k) := by cases a <;> exact hno
  have HEQ : Hid ((Value.slice a c c).ownBlock = (Value.slice a l.length c).ownBlock) := by cases a <;> rfl
  obtain ⟨vo, vc, hv⟩ := row_form (hI.row 3 (by omega))
  have HV : Hid (S.v 3 = .slice vo (S.xs 3).length vc) := hv
  have HROW : Hid (w.ownsRow 0 32 1 (.slice vo (S.xs 3).length vc) (S.xs 3).length (S.xs 3)) := by
    have := hI.row 3 (by omega)
    rw [hv] at this
    exact this
  have hKN := hI.len 3 (by omega)
  have hq := hI.qlt
  have HBX : Hid (∀ W : World, W.heap[Q]? = w.heap[Q]? → W.heap[Q]? = some (.cells #[S.v 0, S.v 1, S.v 2, .slice vo (S.xs 3).length vc, S.v 4] 30 (0, 0))) := fun W hW => by
    rw [hW, hI.box, hv]
  have HQA : Hid ((Value.slice a c c).ownBlock ≠ some Q) := fun e => HNO.out Q e ⟨_, hI.q⟩
  have HX : Hid (∃ xs, xs = S.xs 3) := ⟨_, rfl⟩
  generalize hK : (S.xs 3).length = K at *
  have HK : Hid ((S.xs 3).length = K) := hK
  have hcm2 : c ≤ 9223372036854775807 := by unfold maxLen at hcm; omega
  have hKm : K ≤ 1000000000000 := by omega
  unfold maxLen at hcm
  have hM : IntKind.i64.wrap (-1 - (K : Int)) = -1 - (K : Int) := wrapEq _ (by omega)
  clear hI hl hno hv hful hK HX hKN
  go_enter Tryz.func32, Tryz.ntmps32
  have hb0 : (0 : Int) ≤ (c : Int) := by omega
  go_wp2_with fail
  go_loopg [5] c (fun g iv wr => ∃ k : Nat, k ≤ c ∧ g = c - k ∧ iv = .int .i64 k ∧ Hid (w.grownBy wr (Value.slice a c c).ownBlock) ∧ Hid (∃ zs, wr.ownsRow 0 42 3 (.slice a c c) c (cellsT (List.replicate k ⟨-1 - (K : Int), 0, 0⟩) ++ zs)))
  case atStart => exact ⟨0, by omega, rfl, rfl, grown_refl _ _, ys, by simpa [cellsT] using HL.out⟩
  case round =>
    obtain ⟨k, hk, hg, rfl, HG1, HO1⟩ := hrel
    have HG : Hid _ := hg
    clear hg
    have hbx := HBX.out wr (HG1.out.block Q hq (fun e => HQA.out e.symm))
    obtain ⟨⟨x0, x1, x2, x3, x4⟩, y0, y1, y2, y3, y4⟩ := five_cell hbx
    have hqw : Q < wr.heap.size := block_lt hbx
    by_cases hlt : k < c
    · obtain ⟨zs, hrow⟩ := HO1.out
      obtain ⟨g, rfl⟩ : ∃ g, a = some ⟨g, 0, none⟩ := by
        rcases hrow.2 with ⟨h, h0⟩ | ⟨g, c', cur, h, _⟩
        · omega
        · simp at h; exact ⟨g, h.1⟩
      have hxl := hrow.1
      rw [List.length_append, cellsT_length, List.length_replicate] at hxl
      obtain ⟨z0, z1, z2, zs, rfl⟩ : ∃ z0 z1 z2 zs', zs = z0 :: z1 :: z2 :: zs' := by
        match zs, hxl with
        | z0 :: z1 :: z2 :: zs, _ => exact ⟨z0, z1, z2, zs, rfl⟩
        | [_, _], h => simp at h; omega
        | [_], h => simp at h; omega
        | [], h => simp at h; omega
      simp only [List.length_cons] at hxl
      obtain ⟨u0, hu0⟩ : ∃ y, wr.cell? ⟨g, k * 3, none⟩ = some y := ⟨_, by rw [hrow.cellAt (k * 3) (by omega)]; exact List.getElem?_eq_getElem (by simp [cellsT_length])⟩
      obtain ⟨u1, hu1⟩ : ∃ y, wr.cell? ⟨g, k * 3 + 1, none⟩ = some y := ⟨_, by rw [hrow.cellAt (k * 3 + 1) (by omega)]; exact List.getElem?_eq_getElem (by simp [cellsT_length])⟩
      obtain ⟨u2, hu2⟩ : ∃ y, wr.cell? ⟨g, k * 3 + 2, none⟩ = some y := ⟨_, by rw [hrow.cellAt (k * 3 + 2) (by omega)]; exact List.getElem?_eq_getElem (by simp [cellsT_length])⟩
      have hf0 := hrow.frozenAt (k * 3)
      have hf1 := hrow.frozenAt (k * 3 + 1)
      have hf2 := hrow.frozenAt (k * 3 + 2)
      have hgl : g < wr.heap.size := World.block_lt_of_cell? wr _ hu0
      have hkI : 0 ≤ (k : Int) ∧ (k : Int) < (c : Int) := by omega
      have HR1 : Hid _ := hrow
      clear hrow hxl hbx x0 x1 x2 x4 y0 y1 y2 y4
      go_wp2
      go_roundg (c - (k + 1))
      case measure => have := HG.out; omega
      case rel =>
        refine ⟨k + 1, by omega, rfl, by go_num, grown_set (grown_set (grown_set HG1.out rfl _ _) rfl _ _) rfl _ _, zs, ?_⟩
        have := (World.ownsRow.stored (World.ownsRow.stored (World.ownsRow.stored HR1.out (k * 3) (.int .i64 (-1 - (K : Int)))).1 (k * 3 + 1) (.int .i64 0)).1 (k * 3 + 2) (.int .i64 0)).1
        rw [cellsT_set3] at this
        exact this
    · have hke : k = c := by omega
      subst hke
      have hlt' : ¬ (k : Int) < (k : Int) := by omega
      obtain ⟨zs, hrow⟩ := HO1.out
      have HFB : Hid (FullT wr (.slice a k k) K) := by
        refine ⟨a, k, rfl, ?_⟩
        have hxl := hrow.1
        rw [List.length_append, cellsT_length, List.length_replicate] at hxl
        obtain rfl : zs = [] := List.eq_nil_of_length_eq_zero (by omega)
        rw [List.append_nil] at hrow
        show wr.ownsRow 0 42 3 _ _ _
        rw [List.length_replicate]
        exact hrow
      have HI1 : Hid (Inv wr Q S N) := HI.out.frame (grown_moved HG1.out (fun x => (Value.slice a k k).ownBlock = some x) (fun _ h => h)) (fun x hx h => HNO.out x h hx)
      have HR1 : Hid (wr.ownsRow 0 32 1 (.slice vo K vc) K (S.xs 3)) := by
        have := HI1.out.row 3 (by omega)
        rw [HV.out, HK.out] at this
        exact this
      have HLT : Hid (∀ x, (Value.slice a k k).ownBlock = some x → x < wr.heap.size) := fun x hx => (World.ownsRow.lt hrow x hx).2
      clear hrow HO1 hlt hlt' HG HROW
      have HNE : Hid ((Value.slice vo K vc).ownBlock ≠ some Q) := by
        have := HI1.out.rowNe (j := 3) (by omega)
        rw [HV.out] at this
        exact this
      have HB1 : Hid _ := hbx
      clear hbx
      go_wp2_with (at_builtin; refine wpList_append_lies _ rfl _ _ 27 rfl 0 32 ib (.slice none 0 0) 1 24 Tryz.underlying27 hi hz0 hz1 hz2 rfl (by decide) _ _ _ rfl (World.ownsRow.alloc HR1.out _) ⟨wr.heap.size, 0, none⟩ 1 1 [.slice a k k] rfl rfl ?b1 ?b2 (by decide) ?b3 ?b4 ?b5 _ rfl ?_)
      case b1 => intro j u hj; exact cell_new1 _ _ _ j u hj
      case b2 => intro u hu; simp at hu; subst hu; rfl
      case b3 => unfold maxLen; omega
      case b4 => omega
      case b5 => exact Nat.zero_le _
      intro g cap w2 hown2 hgrow2 hat hlt2
      have hb2 : w2.heap[Q]? = _ := (hgrow2.block Q (by simp; omega) (fun e => HNE.out e.symm)).trans ((Below.heap_alloc _ _ _ hqw).trans HB1.out)
      obtain ⟨⟨k0, k1, k2, k3, k4⟩, l0, l1, l2, l3, l4⟩ := five_cell hb2
      have hqw2 : Q < w2.heap.size := block_lt hb2
      have HD : Hid _ := push_done (j := 3) (x := .slice a k k) (F := (Value.slice a k k).ownBlock.toList) (g := g) (cap := cap) HI1.out (by omega) ((Below.refl _ wr).alloc (Nat.le_refl _) _) (by rw [HV.out]; exact hgrow2) (by rw [HK.out]; exact hown2) (by
        rw [HV.out]
        rcases hat with h | h
        · exact .inl h
        · exact .inr (by rw [h]; simp)) (by rw [HK.out]; exact ⟨HFB.out, fun x hx => by simp [hx]⟩) (fun x hx => by simp at hx; exact ⟨HNO.out x hx, HLT.out x hx⟩)
      rw [HK.out] at HD
      clear hb2 hown2 hgrow2 hat x0 x1 x2 x3 x4 y0 y1 y2 y3 y4
      go_wp2
      go_end0
      refine ⟨rfl, _, HD.out.1, ?_⟩
      refine ((grown_moved HG1.out (fun x => S.own x ∨ (Value.slice a k k).ownBlock = some x) (fun x hx => .inr hx)).trans (HD.out.2.mono (p := fun x => S.own x ∨ (Value.slice a k k).ownBlock = some x) (fun x hx => ?_) (fun _ h => h))).mono (fun x hx => ?_) (fun _ h => h)
      · simpa using hx
      · rw [← HEQ.out]; exact hx
end Go.Proofs.YtnpnaglgllcpfaaGreat
