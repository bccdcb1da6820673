/-
  Plain facts on least costs and how many ways have them, of no program: ways through places, from the one end and from the other.
-/
import Derived.Test.YtnpnaglgllcpfabPlain
namespace Go.Proofs.Ytnpnaglgllcpfab
namespace Dp

/-- A least cost and how many have it; none: there is no way. -/
abbrev S := Option (Nat × Nat)
def add : S → S → S
  | none, y => y
  | x, none => x
  | some (a, u), some (b, v) => if a < b then some (a, u) else if b < a then some (b, v) else some (a, u + v)
/-- So much cost more. -/
def sh (k : Nat) : S → S
  | none => none
  | some (a, u) => some (a + k, u)
def mul : S → S → S
  | some (a, u), some (b, v) => some (a + b, u * v)
  | _, _ => none
def one : S := some (0, 1)

theorem add_none (x : S) : add x none = x := by cases x <;> rfl
theorem none_add (x : S) : add none x = x := by cases x <;> rfl
theorem add_some (a u b v : Nat) : add (some (a, u)) (some (b, v)) = if a < b then some (a, u) else if b < a then some (b, v) else some (a, u + v) := rfl
theorem add_comm (x y : S) : add x y = add y x := by
  rcases x with _ | ⟨a, u⟩ <;> rcases y with _ | ⟨b, v⟩
  · rfl
  · rfl
  · rfl
  · simp only [add_some]
    by_cases h1 : a < b
    · rw [if_pos h1, if_neg (by omega), if_pos h1]
    · by_cases h2 : b < a
      · rw [if_neg h1, if_pos h2, if_pos h2]
      · have : a = b := by omega
        subst this
        rw [if_neg h1, if_neg h1, if_neg h1, if_neg h1, Nat.add_comm]
theorem add_assoc (x y z : S) : add (add x y) z = add x (add y z) := by
  rcases x with _ | ⟨a, u⟩
  · rw [none_add, none_add]
  rcases y with _ | ⟨b, v⟩
  · rw [add_none, none_add]
  rcases z with _ | ⟨c, t⟩
  · rw [add_none, add_none]
  simp only [add_some]
  by_cases h1 : a < b
  · by_cases h2 : b < c
    · simp only [if_pos h1, if_pos h2, add_some, if_pos (show a < c by omega)]
    · by_cases h3 : c < b
      · simp only [if_pos h1, if_neg h2, if_pos h3, add_some]
      · simp only [if_pos h1, if_neg h2, if_neg h3, add_some, if_pos (show a < c by omega)]
  · by_cases h1' : b < a
    · by_cases h2 : b < c
      · simp only [if_neg h1, if_pos h1', if_pos h2, add_some]
      · by_cases h3 : c < b
        · simp only [if_neg h1, if_pos h1', if_neg h2, if_pos h3, add_some, if_neg (show ¬ a < c by omega), if_pos (show c < a by omega)]
        · simp only [if_neg h1, if_pos h1', if_neg h2, if_neg h3, add_some]
    · have : a = b := by omega
      subst this
      by_cases h2 : a < c
      · simp only [if_neg h1, if_pos h2, add_some]
      · by_cases h3 : c < a
        · simp only [if_neg h1, if_neg h2, if_pos h3, add_some]
        · simp only [if_neg h1, if_neg h2, if_neg h3, add_some, Nat.add_assoc]
theorem sh_add (k : Nat) (x y : S) : sh k (add x y) = add (sh k x) (sh k y) := by
  rcases x with _ | ⟨a, u⟩
  · rw [none_add]; exact (none_add _).symm
  rcases y with _ | ⟨b, v⟩
  · rw [add_none]; exact (add_none _).symm
  simp only [add_some, sh]
  by_cases h1 : a < b
  · rw [if_pos h1, if_pos (by omega)]
  · by_cases h2 : b < a
    · rw [if_neg h1, if_pos h2, if_neg (by omega), if_pos (by omega)]
    · rw [if_neg h1, if_neg h2, if_neg (by omega), if_neg (by omega)]
theorem mul_none (x : S) : mul x none = none := by cases x <;> rfl
theorem none_mul (x : S) : mul none x = none := by cases x <;> rfl
theorem mul_some (a u b v : Nat) : mul (some (a, u)) (some (b, v)) = some (a + b, u * v) := rfl
theorem add_mul (x y z : S) : mul (add x y) z = add (mul x z) (mul y z) := by
  rcases x with _ | ⟨a, u⟩
  · rw [none_add, none_mul, none_add]
  rcases y with _ | ⟨b, v⟩
  · rw [add_none, none_mul, add_none]
  rcases z with _ | ⟨c, t⟩
  · rw [mul_none, mul_none, mul_none]; rfl
  simp only [add_some, mul_some]
  by_cases h1 : a < b
  · rw [if_pos h1, if_pos (by omega), mul_some]
  · by_cases h2 : b < a
    · rw [if_neg h1, if_pos h2, if_neg (by omega), if_pos (by omega), mul_some]
    · rw [if_neg h1, if_neg h2, if_neg (by omega), if_neg (by omega), mul_some, Nat.add_mul]
theorem mul_add (x y z : S) : mul x (add y z) = add (mul x y) (mul x z) := by
  rcases x with _ | ⟨a, u⟩
  · rw [none_mul, none_mul, none_mul]; rfl
  rcases y with _ | ⟨b, v⟩
  · rw [none_add, mul_none, none_add]
  rcases z with _ | ⟨c, t⟩
  · rw [add_none, mul_none, add_none]
  simp only [add_some, mul_some]
  by_cases h1 : b < c
  · rw [if_pos h1, if_pos (by omega), mul_some]
  · by_cases h2 : c < b
    · rw [if_neg h1, if_pos h2, if_neg (by omega), if_pos (by omega), mul_some]
    · rw [if_neg h1, if_neg h2, if_neg (by omega), if_neg (by omega), mul_some, Nat.mul_add]
theorem mul_sh (k : Nat) (x y : S) : mul x (sh k y) = mul (sh k x) y := by
  rcases x with _ | ⟨a, u⟩
  · rw [none_mul]; exact (none_mul _).symm
  rcases y with _ | ⟨b, v⟩
  · exact (mul_none _).symm
  simp only [sh, mul_some]
  rw [show a + (b + k) = a + k + b by omega]
theorem one_mul (x : S) : mul one x = x := by
  rcases x with _ | ⟨a, u⟩
  · rfl
  · simp [one, mul]
theorem mul_one (x : S) : mul x one = x := by
  rcases x with _ | ⟨a, u⟩
  · rfl
  · simp [one, mul]

def sum : List S → S
  | [] => none
  | x :: l => add x (sum l)
theorem sum_mul_left (x : S) : ∀ l : List S, mul x (sum l) = sum (l.map (mul x))
  | [] => mul_none x
  | y :: l => by simp only [sum, List.map_cons, mul_add, sum_mul_left x l]
theorem sum_append : ∀ a b : List S, sum (a ++ b) = add (sum a) (sum b)
  | [], b => (none_add _).symm
  | x :: a, b => by simp only [List.cons_append, sum, sum_append a b, add_assoc]

/-- The places 0 to N; from each its steps: how far, at what cost. -/
structure Net where
  N : Nat
  E : Nat → List (Nat × Nat)
  far : ∀ i, i < N → ∀ e ∈ E i, 1 ≤ e.1 ∧ i + e.1 ≤ N

/-- From a place to the end, so many steps at most. -/
def Net.toF (G : Net) : Nat → Nat → S
  | 0, i => if i = G.N then one else none
  | f + 1, i => if i = G.N then one else if G.N < i then none else sum ((G.E i).map fun e => sh e.2 (G.toF f (i + e.1)))
/-- From a place to the end. -/
def Net.to (G : Net) (i : Nat) : S := G.toF (G.N - i) i

theorem Net.toF_enough (G : Net) : ∀ (f i : Nat), i ≤ G.N → G.N - i ≤ f → G.toF f i = G.toF (G.N - i) i
  | 0, i, hi, h => by rw [show G.N - i = 0 by omega]
  | f + 1, i, hi, h => by
    rcases Nat.lt_or_ge i G.N with hlt | hge
    · obtain ⟨g, hg⟩ : ∃ g, G.N - i = g + 1 := ⟨G.N - i - 1, by omega⟩
      rw [hg]
      simp only [Net.toF]
      rw [if_neg (by omega), if_neg (by omega), if_neg (by omega), if_neg (by omega)]
      congr 1
      apply List.map_congr_left
      intro e he
      have hf := G.far i hlt e he
      rw [Net.toF_enough G f (i + e.1) hf.2 (by omega), Net.toF_enough G g (i + e.1) hf.2 (by omega)]
    · rw [show G.N - i = 0 by omega]
      simp only [Net.toF]
      rw [if_pos (by omega), if_pos (by omega)]
theorem Net.to_end (G : Net) : G.to G.N = one := by
  unfold Net.to
  rw [Nat.sub_self]
  simp [Net.toF]
theorem Net.to_step (G : Net) (i : Nat) (h : i < G.N) : G.to i = sum ((G.E i).map fun e => sh e.2 (G.to (i + e.1))) := by
  unfold Net.to
  obtain ⟨g, hg⟩ : ∃ g, G.N - i = g + 1 := ⟨G.N - i - 1, by omega⟩
  rw [hg]
  simp only [Net.toF]
  rw [if_neg (by omega), if_neg (by omega)]
  congr 1
  apply List.map_congr_left
  intro e he
  have hf := G.far i h e he
  rw [Net.toF_enough G g (i + e.1) hf.2 (by omega)]

/-- What is known of each place. -/
abbrev Tab := Nat → S
def upd (A : Tab) (j : Nat) (x : S) : Tab := fun k => if k = j then add (A j) x else A k
/-- One place's steps, each met where it leads. -/
def push (x : S) (i : Nat) : List (Nat × Nat) → Tab → Tab
  | [], A => A
  | e :: es, A => push x i es (upd A (i + e.1) (sh e.2 x))
/-- The places below i have been gone through. -/
def Net.from (G : Net) : Nat → Tab
  | 0 => fun j => if j = 0 then one else none
  | i + 1 => push (G.from i i) i (G.E i) (G.from i)

/-- What leads through the places from lo on, n of them. -/
def Net.thru (G : Net) (A : Tab) (lo n : Nat) : S := sum ((List.range' lo n).map fun j => mul (A j) (G.to j))
theorem thru_upd (G : Net) (A : Tab) (j : Nat) (x : S) : ∀ (n lo : Nat), lo ≤ j → j < lo + n → G.thru (upd A j x) lo n = add (G.thru A lo n) (mul x (G.to j))
  | 0, lo, h1, h2 => by omega
  | n + 1, lo, h1, h2 => by
    unfold Net.thru
    rw [List.range'_succ, List.map_cons, List.map_cons]
    simp only [sum]
    rcases Nat.lt_or_ge lo j with h | h
    · have ih := thru_upd G A j x n (lo + 1) (by omega) (by omega)
      unfold Net.thru at ih
      rw [ih, show upd A j x lo = A lo from if_neg (by omega), add_assoc]
    · have hlo : lo = j := by omega
      subst hlo
      have hrest : ((List.range' (lo + 1) n).map fun k => mul (upd A lo x k) (G.to k)) = ((List.range' (lo + 1) n).map fun k => mul (A k) (G.to k)) := by
        apply List.map_congr_left
        intro k hk
        have := (List.mem_range'_1.1 hk).1
        rw [show upd A lo x k = A k from if_neg (by omega)]
      rw [hrest, show upd A lo x lo = add (A lo) x from if_pos rfl, add_mul, add_assoc, add_assoc, add_comm (mul x (G.to lo))]
theorem thru_push (G : Net) (x : S) (i lo n : Nat) : ∀ (es : List (Nat × Nat)) (A : Tab), (∀ e ∈ es, lo ≤ i + e.1 ∧ i + e.1 < lo + n) → G.thru (push x i es A) lo n = add (G.thru A lo n) (mul x (sum (es.map fun e => sh e.2 (G.to (i + e.1)))))
  | [], A, _ => by
    show G.thru A lo n = add (G.thru A lo n) (mul x none)
    rw [mul_none, add_none]
  | e :: es, A, h => by
    have h1 := h e (List.mem_cons_self ..)
    rw [push, thru_push G x i lo n es _ (fun e' he => h e' (List.mem_cons_of_mem _ he)), thru_upd G A _ _ n lo h1.1 h1.2, List.map_cons]
    simp only [sum]
    rw [mul_add, mul_sh, add_assoc]
theorem push_low (x : S) (i k : Nat) : ∀ (es : List (Nat × Nat)) (A : Tab), (∀ e ∈ es, k < i + e.1) → push x i es A k = A k
  | [], A, _ => rfl
  | e :: es, A, h => by
    have h1 := h e (List.mem_cons_self ..)
    rw [push, push_low x i k es _ (fun e' he => h e' (List.mem_cons_of_mem _ he))]
    exact if_neg (by omega)
theorem Net.thru_step (G : Net) (i : Nat) (h : i < G.N) : G.thru (G.from (i + 1)) (i + 1) (G.N - i) = G.thru (G.from i) i (G.N + 1 - i) := by
  have hE := G.far i h
  rw [Net.from, thru_push G _ i (i + 1) (G.N - i) (G.E i) (G.from i) (fun e he => by have := hE e he; omega), ← G.to_step i h]
  unfold Net.thru
  rw [show G.N + 1 - i = (G.N - i) + 1 by omega, List.range'_succ, List.map_cons]
  simp only [sum]
  rw [add_comm]
theorem Net.thru_all (G : Net) : ∀ i, i ≤ G.N → G.thru (G.from i) i (G.N + 1 - i) = G.thru (G.from 0) 0 (G.N + 1)
  | 0, _ => rfl
  | i + 1, h => by
    rw [← Net.thru_all G i (by omega), ← G.thru_step i (by omega), show G.N + 1 - (i + 1) = G.N - i by omega]
theorem sum_none : ∀ l : List S, (∀ x ∈ l, x = none) → sum l = none
  | [], _ => rfl
  | x :: l, h => by
    simp only [sum]
    rw [h x (List.mem_cons_self ..), sum_none l (fun y hy => h y (List.mem_cons_of_mem _ hy))]; rfl
/-- From the one end and from the other: the same. -/
theorem Net.from_to (G : Net) : G.from G.N G.N = G.to 0 := by
  have h1 := G.thru_all G.N (Nat.le_refl _)
  rw [show G.N + 1 - G.N = 1 by omega] at h1
  unfold Net.thru at h1
  rw [List.range'_one, List.range'_succ] at h1
  simp only [List.map_cons, List.map_nil, sum] at h1
  rw [add_none, G.to_end, mul_one] at h1
  have h0 : G.from 0 0 = one := by simp [Net.from]
  rw [h1, h0, one_mul, sum_none, add_none]
  intro x hx
  obtain ⟨k, hk, rfl⟩ := List.mem_map.1 hx
  have := (List.mem_range'_1.1 hk).1
  have hk0 : G.from 0 k = none := by simp [Net.from]; omega
  rw [hk0, none_mul]

/-- Steps that lead from a place to the end. -/
def Net.path (G : Net) : Nat → List (Nat × Nat) → Prop
  | i, [] => i = G.N
  | i, e :: es => i < G.N ∧ e ∈ G.E i ∧ G.path (i + e.1) es
def pathCost (es : List (Nat × Nat)) : Nat := (es.map Prod.snd).sum

/-- Whoever there is, there is at least one. -/
def pos (x : S) : Prop := ∀ a u, x = some (a, u) → 1 ≤ u
/-- There is one of at most this cost. -/
def le (x : S) (n : Nat) : Prop := ∃ b v, x = some (b, v) ∧ b ≤ n
theorem add_pos {x y : S} (hx : pos x) (hy : pos y) : pos (add x y) := by
  rcases x with _ | ⟨a, u⟩
  · rw [none_add]; exact hy
  rcases y with _ | ⟨b, v⟩
  · rw [add_none]; exact hx
  have h1 := hx a u rfl
  have h2 := hy b v rfl
  intro c t h
  rw [add_some] at h
  split at h
  · simp at h; omega
  · split at h <;> (simp at h; omega)
theorem sh_pos {x : S} (k : Nat) (hx : pos x) : pos (sh k x) := by
  rcases x with _ | ⟨a, u⟩
  · intro a u h; cases h
  · intro c t h
    have := hx a u rfl
    simp [sh] at h; omega
theorem sum_pos : ∀ l : List S, (∀ x ∈ l, pos x) → pos (sum l)
  | [], _ => fun _ _ h => by cases h
  | x :: l, h => add_pos (h x (List.mem_cons_self ..)) (sum_pos l fun y hy => h y (List.mem_cons_of_mem _ hy))
theorem one_pos : pos one := fun a u h => by simp [one] at h; omega
theorem none_pos : pos none := fun _ _ h => by cases h
theorem Net.toF_pos (G : Net) : ∀ f i, pos (G.toF f i)
  | 0, i => by
    simp only [Net.toF]
    split
    · exact one_pos
    · exact none_pos
  | f + 1, i => by
    simp only [Net.toF]
    split
    · exact one_pos
    · split
      · exact none_pos
      · refine sum_pos _ fun x hx => ?_
        obtain ⟨e, _, rfl⟩ := List.mem_map.1 hx
        exact sh_pos _ (Net.toF_pos G f _)
theorem Net.to_pos (G : Net) (i : Nat) : pos (G.to i) := G.toF_pos _ _
theorem add_le_left {x : S} {n : Nat} (y : S) (h : le x n) : le (add x y) n := by
  obtain ⟨b, v, rfl, hb⟩ := h
  rcases y with _ | ⟨c, t⟩
  · exact ⟨b, v, rfl, hb⟩
  · rw [add_some]
    by_cases h1 : b < c
    · exact ⟨b, v, if_pos h1, hb⟩
    · by_cases h2 : c < b
      · exact ⟨c, t, by rw [if_neg h1, if_pos h2], by omega⟩
      · exact ⟨b, v + t, by rw [if_neg h1, if_neg h2], hb⟩
theorem add_le_right {y : S} {n : Nat} (x : S) (h : le y n) : le (add x y) n := by rw [add_comm]; exact add_le_left x h
theorem sum_le {x : S} {n : Nat} : ∀ l : List S, x ∈ l → le x n → le (sum l) n
  | [], h, _ => by cases h
  | y :: l, h, hx => by
    rcases List.mem_cons.1 h with rfl | h
    · exact add_le_left _ hx
    · exact add_le_right _ (sum_le l h hx)
theorem sh_le {x : S} {n : Nat} (k : Nat) (h : le x n) : le (sh k x) (k + n) := by
  obtain ⟨b, v, rfl, hb⟩ := h
  exact ⟨b + k, v, rfl, by omega⟩
/-- No way costs less. -/
theorem Net.path_le (G : Net) : ∀ (es : List (Nat × Nat)) (i : Nat), G.path i es → le (G.to i) (pathCost es)
  | [], i, h => by
    rw [show i = G.N from h, G.to_end]
    exact ⟨0, 1, rfl, Nat.zero_le _⟩
  | e :: es, i, h => by
    obtain ⟨hi, he, hp⟩ := h
    have ih := Net.path_le G es _ hp
    rw [G.to_step i hi]
    refine sum_le _ (List.mem_map.2 ⟨e, he, rfl⟩) ?_
    have := sh_le e.2 ih
    simpa [pathCost] using this
theorem sum_mem : ∀ (l : List S) (b v : Nat), sum l = some (b, v) → ∃ u, some (b, u) ∈ l
  | [], b, v, h => by cases h
  | x :: l, b, v, h => by
    simp only [sum] at h
    rcases x with _ | ⟨a, u⟩
    · rw [none_add] at h
      obtain ⟨u, hu⟩ := sum_mem l b v h
      exact ⟨u, List.mem_cons_of_mem _ hu⟩
    · rcases hs : sum l with _ | ⟨c, t⟩
      · rw [hs, add_none] at h
        simp at h
        exact ⟨u, by rw [h.1]; exact List.mem_cons_self ..⟩
      · rw [hs, add_some] at h
        split at h
        · simp at h
          exact ⟨u, by rw [h.1]; exact List.mem_cons_self ..⟩
        · split at h
          · simp at h
            obtain ⟨u', hu⟩ := sum_mem l c t hs
            exact ⟨u', by rw [← h.1]; exact List.mem_cons_of_mem _ hu⟩
          · simp at h
            exact ⟨u, by rw [h.1]; exact List.mem_cons_self ..⟩
/-- And one has just that cost. -/
theorem Net.path_is (G : Net) : ∀ (k i : Nat), i ≤ G.N → G.N - i ≤ k → ∀ m w, G.to i = some (m, w) → ∃ es, G.path i es ∧ pathCost es = m
  | k, i, hi, hk, m, w, h => by
    rcases Nat.lt_or_ge i G.N with hlt | hge
    · rw [G.to_step i hlt] at h
      obtain ⟨u, hu⟩ := sum_mem _ _ _ h
      obtain ⟨e, he, hx⟩ := List.mem_map.1 hu
      have hf := G.far i hlt e he
      rcases ht : G.to (i + e.1) with _ | ⟨a, v⟩
      · rw [ht] at hx; cases hx
      · rw [ht] at hx
        simp [sh] at hx
        match k, hk with
        | 0, hk => omega
        | k + 1, hk =>
          obtain ⟨es, hp, hc⟩ := Net.path_is G k (i + e.1) hf.2 (by omega) a v ht
          refine ⟨e :: es, ⟨hlt, he, hp⟩, ?_⟩
          simp [pathCost] at *
          omega
    · have : i = G.N := by omega
      subst this
      rw [G.to_end] at h
      simp [one] at h
      exact ⟨[], rfl, by simp [pathCost]; omega⟩
end Dp
end Go.Proofs.Ytnpnaglgllcpfab
