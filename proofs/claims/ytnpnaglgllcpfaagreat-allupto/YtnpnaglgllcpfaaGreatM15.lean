/-
  Lemmas for the law All: Dp, Dp2, Dp3.
-/
import Derived.Test.YtnpnaglgllcpfaaGreatM01
/- Plain facts on least costs and how many ways have them, of no program: ways through places, from the one end and from the other. -/
namespace Go.Proofs.YtnpnaglgllcpfaaGreat
namespace Dp

/-- A least cost and how many have it; none: there is no way. -/
abbrev S := Option (Nat × Nat)
def add : S → S → S
  | none, y => y
  | x, none => x
  | some (a, u), some (b, v) => if a < b then some (a, u) else if b < a then some (b, v) else some (a, u + v)
/-- So much cost more. -/
def sh (k : Nat) : S → S
  | none => none
  | some (a, u) => some (a + k, u)
def mul : S → S → S
  | some (a, u), some (b, v) => some (a + b, u * v)
  | _, _ => none
def one : S := some (0, 1)

theorem add_none (x : S) : add x none = x := by cases x <;> rfl
theorem none_add (x : S) : add none x = x := by cases x <;> rfl
theorem add_some (a u b v : Nat) : add (some (a, u)) (some (b, v)) = if a < b then some (a, u) else if b < a then some (b, v) else some (a, u + v) := rfl
theorem add_comm (x y : S) : add x y = add y x := by
  rcases x with _ | ⟨a, u⟩ <;> rcases y with _ | ⟨b, v⟩
  · rfl
  · rfl
  · rfl
  · simp only [add_some]
    by_cases h1 : a < b
    · rw [if_pos h1, if_neg (by omega), if_pos h1]
    · by_cases h2 : b < a
      · rw [if_neg h1, if_pos h2, if_pos h2]
      · have : a = b := by omega
        subst this
        rw [if_neg h1, if_neg h1, if_neg h1, if_neg h1, Nat.add_comm]
theorem add_assoc (x y z : S) : add (add x y) z = add x (add y z) := by
  rcases x with _ | ⟨a, u⟩
  · rw [none_add, none_add]
  rcases y with _ | ⟨b, v⟩
  · rw [add_none, none_add]
  rcases z with _ | ⟨c, t⟩
  · rw [add_none, add_none]
  simp only [add_some]
  by_cases h1 : a < b
  · by_cases h2 : b < c
    · simp only [if_pos h1, if_pos h2, add_some, if_pos (show a < c by omega)]
    · by_cases h3 : c < b
      · simp only [if_pos h1, if_neg h2, if_pos h3, add_some]
      · simp only [if_pos h1, if_neg h2, if_neg h3, add_some, if_pos (show a < c by omega)]
  · by_cases h1' : b < a
    · by_cases h2 : b < c
      · simp only [if_neg h1, if_pos h1', if_pos h2, add_some]
      · by_cases h3 : c < b
        · simp only [if_neg h1, if_pos h1', if_neg h2, if_pos h3, add_some, if_neg (show ¬ a < c by omega), if_pos (show c < a by omega)]
        · simp only [if_neg h1, if_pos h1', if_neg h2, if_neg h3, add_some]
    · have : a = b := by omega
      subst this
      by_cases h2 : a < c
      · simp only [if_neg h1, if_pos h2, add_some]
      · by_cases h3 : c < a
        · simp only [if_neg h1, if_neg h2, if_pos h3, add_some]
        · simp only [if_neg h1, if_neg h2, if_neg h3, add_some, Nat.add_assoc]
theorem sh_add (k : Nat) (x y : S) : sh k (add x y) = add (sh k x) (sh k y) := by
  rcases x with _ | ⟨a, u⟩
  · rw [none_add]; exact (none_add _).symm
  rcases y with _ | ⟨b, v⟩
  · rw [add_none]; exact (add_none _).symm
  simp only [add_some, sh]
  by_cases h1 : a < b
  · rw [if_pos h1, if_pos (by omega)]
  · by_cases h2 : b < a
    · rw [if_neg h1, if_pos h2, if_neg (by omega), if_pos (by omega)]
    · rw [if_neg h1, if_neg h2, if_neg (by omega), if_neg (by omega)]
theorem mul_none (x : S) : mul x none = none := by cases x <;> rfl
theorem none_mul (x : S) : mul none x = none := by cases x <;> rfl
theorem mul_some (a u b v : Nat) : mul (some (a, u)) (some (b, v)) = some (a + b, u * v) := rfl
theorem add_mul (x y z : S) : mul (add x y) z = add (mul x z) (mul y z) := by
  rcases x with _ | ⟨a, u⟩
  · rw [none_add, none_mul, none_add]
  rcases y with _ | ⟨b, v⟩
  · rw [add_none, none_mul, add_none]
  rcases z with _ | ⟨c, t⟩
  · rw [mul_none, mul_none, mul_none]; rfl
  simp only [add_some, mul_some]
  by_cases h1 : a < b
  · rw [if_pos h1, if_pos (by omega), mul_some]
  · by_cases h2 : b < a
    · rw [if_neg h1, if_pos h2, if_neg (by omega), if_pos (by omega), mul_some]
    · rw [if_neg h1, if_neg h2, if_neg (by omega), if_neg (by omega), mul_some, Nat.add_mul]
theorem mul_add (x y z : S) : mul x (add y z) = add (mul x y) (mul x z) := by
  rcases x with _ | ⟨a, u⟩
  · rw [none_mul, none_mul, none_mul]; rfl
  rcases y with _ | ⟨b, v⟩
  · rw [none_add, mul_none, none_add]
  rcases z with _ | ⟨c, t⟩
  · rw [add_none, mul_none, add_none]
  simp only [add_some, mul_some]
  by_cases h1 : b < c
  · rw [if_pos h1, if_pos (by omega), mul_some]
  · by_cases h2 : c < b
    · rw [if_neg h1, if_pos h2, if_neg (by omega), if_pos (by omega), mul_some]
    · rw [if_neg h1, if_neg h2, if_neg (by omega), if_neg (by omega), mul_some, Nat.mul_add]
theorem mul_sh (k : Nat) (x y : S) : mul x (sh k y) = mul (sh k x) y := by
  rcases x with _ | ⟨a, u⟩
  · rw [none_mul]; exact (none_mul _).symm
  rcases y with _ | ⟨b, v⟩
  · exact (mul_none _).symm
  simp only [sh, mul_some]
  rw [show a + (b + k) = a + k + b by omega]
theorem one_mul (x : S) : mul one x = x := by
  rcases x with _ | ⟨a, u⟩
  · rfl
  · simp [one, mul]
theorem mul_one (x : S) : mul x one = x := by
  rcases x with _ | ⟨a, u⟩
  · rfl
  · simp [one, mul]

def sum : List S → S
  | [] => none
  | x :: l => add x (sum l)
theorem sum_mul_left (x : S) : ∀ l : List S, mul x (sum l) = sum (l.map (mul x))
  | [] => mul_none x
  | y :: l => by simp only [sum, List.map_cons, mul_add, sum_mul_left x l]
theorem sum_append : ∀ a b : List S, sum (a ++ b) = add (sum a) (sum b)
  | [], b => (none_add _).symm
  | x :: a, b => by simp only [List.cons_append, sum, sum_append a b, add_assoc]

/-- The places 0 to N; from each its steps: how far, at what cost. -/
structure Net where
  N : Nat
  E : Nat → List (Nat × Nat)
  far : ∀ i, i < N → ∀ e ∈ E i, 1 ≤ e.1 ∧ i + e.1 ≤ N

/-- From a place to the end, so many steps at most. -/
def Net.toF (G : Net) : Nat → Nat → S
  | 0, i => if i = G.N then one else none
  | f + 1, i => if i = G.N then one else if G.N < i then none else sum ((G.E i).map fun e => sh e.2 (G.toF f (i + e.1)))
/-- From a place to the end. -/
def Net.to (G : Net) (i : Nat) : S := G.toF (G.N - i) i

theorem Net.toF_enough (G : Net) : ∀ (f i : Nat), i ≤ G.N → G.N - i ≤ f → G.toF f i = G.toF (G.N - i) i
  | 0, i, hi, h => by rw [show G.N - i = 0 by omega]
  | f + 1, i, hi, h => by
    rcases Nat.lt_or_ge i G.N with hlt | hge
    · obtain ⟨g, hg⟩ : ∃ g, G.N - i = g + 1 := ⟨G.N - i - 1, by omega⟩
      rw [hg]
      simp only [Net.toF]
      rw [if_neg (by omega), if_neg (by omega), if_neg (by omega), if_neg (by omega)]
      congr 1
      apply List.map_congr_left
      intro e he
      have hf := G.far i hlt e he
      rw [Net.toF_enough G f (i + e.1) hf.2 (by omega), Net.toF_enough G g (i + e.1) hf.2 (by omega)]
    · rw [show G.N - i = 0 by omega]
      simp only [Net.toF]
      rw [if_pos (by omega), if_pos (by omega)]
theorem Net.to_end (G : Net) : G.to G.N = one := by
  unfold Net.to
  rw [Nat.sub_self]
  simp [Net.toF]
theorem Net.to_step (G : Net) (i : Nat) (h : i < G.N) : G.to i = sum ((G.E i).map fun e => sh e.2 (G.to (i + e.1))) := by
  unfold Net.to
  obtain ⟨g, hg⟩ : ∃ g, G.N - i = g + 1 := ⟨G.N - i - 1, by omega⟩
  rw [hg]
  simp only [Net.toF]
  rw [if_neg (by omega), if_neg (by omega)]
  congr 1
  apply List.map_congr_left
  intro e he
  have hf := G.far i h e he
  rw [Net.toF_enough G g (i + e.1) hf.2 (by omega)]

/-- What is known of each place. -/
abbrev Tab := Nat → S
def upd (A : Tab) (j : Nat) (x : S) : Tab := fun k => if k = j then add (A j) x else A k
/-- One place's steps, each met where it leads. -/
def push (x : S) (i : Nat) : List (Nat × Nat) → Tab → Tab
  | [], A => A
  | e :: es, A => push x i es (upd A (i + e.1) (sh e.2 x))
/-- The places below i have been gone through. -/
def Net.from (G : Net) : Nat → Tab
  | 0 => fun j => if j = 0 then one else none
  | i + 1 => push (G.from i i) i (G.E i) (G.from i)

/-- What leads through the places from lo on, n of them. -/
def Net.thru (G : Net) (A : Tab) (lo n : Nat) : S := sum ((List.range' lo n).map fun j => mul (A j) (G.to j))
theorem thru_upd (G : Net) (A : Tab) (j : Nat) (x : S) : ∀ (n lo : Nat), lo ≤ j → j < lo + n → G.thru (upd A j x) lo n = add (G.thru A lo n) (mul x (G.to j))
  | 0, lo, h1, h2 => by omega
  | n + 1, lo, h1, h2 => by
    unfold Net.thru
    rw [List.range'_succ, List.map_cons, List.map_cons]
    simp only [sum]
    rcases Nat.lt_or_ge lo j with h | h
    · have ih := thru_upd G A j x n (lo + 1) (by omega) (by omega)
      unfold Net.thru at ih
      rw [ih, show upd A j x lo = A lo from if_neg (by omega), add_assoc]
    · have hlo : lo = j := by omega
      subst hlo
      have hrest : ((List.range' (lo + 1) n).map fun k => mul (upd A lo x k) (G.to k)) = ((List.range' (lo + 1) n).map fun k => mul (A k) (G.to k)) := by
        apply List.map_congr_left
        intro k hk
        have := (List.mem_range'_1.1 hk).1
        rw [show upd A lo x k = A k from if_neg (by omega)]
      rw [hrest, show upd A lo x lo = add (A lo) x from if_pos rfl, add_mul, add_assoc, add_assoc, add_comm (mul x (G.to lo))]
theorem thru_push (G : Net) (x : S) (i lo n : Nat) : ∀ (es : List (Nat × Nat)) (A : Tab), (∀ e ∈ es, lo ≤ i + e.1 ∧ i + e.1 < lo + n) → G.thru (push x i es A) lo n = add (G.thru A lo n) (mul x (sum (es.map fun e => sh e.2 (G.to (i + e.1)))))
  | [], A, _ => by
    show G.thru A lo n = add (G.thru A lo n) (mul x none)
    rw [mul_none, add_none]
  | e :: es, A, h => by
    have h1 := h e (List.mem_cons_self ..)
    rw [push, thru_push G x i lo n es _ (fun e' he => h e' (List.mem_cons_of_mem _ he)), thru_upd G A _ _ n lo h1.1 h1.2, List.map_cons]
    simp only [sum]
    rw [mul_add, mul_sh, add_assoc]
theorem push_low (x : S) (i k : Nat) : ∀ (es : List (Nat × Nat)) (A : Tab), (∀ e ∈ es, k < i + e.1) → push x i es A k = A k
  | [], A, _ => rfl
  | e :: es, A, h => by
    have h1 := h e (List.mem_cons_self ..)
    rw [push, push_low x i k es _ (fun e' he => h e' (List.mem_cons_of_mem _ he))]
    exact if_neg (by omega)
theorem Net.thru_step (G : Net) (i : Nat) (h : i < G.N) : G.thru (G.from (i + 1)) (i + 1) (G.N - i) = G.thru (G.from i) i (G.N + 1 - i) := by
  have hE := G.far i h
  rw [Net.from, thru_push G _ i (i + 1) (G.N - i) (G.E i) (G.from i) (fun e he => by have := hE e he; omega), ← G.to_step i h]
  unfold Net.thru
  rw [show G.N + 1 - i = (G.N - i) + 1 by omega, List.range'_succ, List.map_cons]
  simp only [sum]
  rw [add_comm]
theorem Net.thru_all (G : Net) : ∀ i, i ≤ G.N → G.thru (G.from i) i (G.N + 1 - i) = G.thru (G.from 0) 0 (G.N + 1)
  | 0, _ => rfl
  | i + 1, h => by
    rw [← Net.thru_all G i (by omega), ← G.thru_step i (by omega), show G.N + 1 - (i + 1) = G.N - i by omega]
theorem sum_none : ∀ l : List S, (∀ x ∈ l, x = none) → sum l = none
  | [], _ => rfl
  | x :: l, h => by
    simp only [sum]
    rw [h x (List.mem_cons_self ..), sum_none l (fun y hy => h y (List.mem_cons_of_mem _ hy))]; rfl
/-- From the one end and from the other: the same. -/
theorem Net.from_to (G : Net) : G.from G.N G.N = G.to 0 := by
  have h1 := G.thru_all G.N (Nat.le_refl _)
  rw [show G.N + 1 - G.N = 1 by omega] at h1
  unfold Net.thru at h1
  rw [List.range'_one, List.range'_succ] at h1
  simp only [List.map_cons, List.map_nil, sum] at h1
  rw [add_none, G.to_end, mul_one] at h1
  have h0 : G.from 0 0 = one := by simp [Net.from]
  rw [h1, h0, one_mul, sum_none, add_none]
  intro x hx
  obtain ⟨k, hk, rfl⟩ := List.mem_map.1 hx
  have := (List.mem_range'_1.1 hk).1
  have hk0 : G.from 0 k = none := by simp [Net.from]; omega
  rw [hk0, none_mul]

/-- Steps that lead from a place to the end. -/
def Net.path (G : Net) : Nat → List (Nat × Nat) → Prop
  | i, [] => i = G.N
  | i, e :: es => i < G.N ∧ e ∈ G.E i ∧ G.path (i + e.1) es
def pathCost (es : List (Nat × Nat)) : Nat := (es.map Prod.snd).sum

/-- Whoever there is, there is at least one. -/
def pos (x : S) : Prop := ∀ a u, x = some (a, u) → 1 ≤ u
/-- There is one of at most this cost. -/
def le (x : S) (n : Nat) : Prop := ∃ b v, x = some (b, v) ∧ b ≤ n
theorem add_pos {x y : S} (hx : pos x) (hy : pos y) : pos (add x y) := by
  rcases x with _ | ⟨a, u⟩
  · rw [none_add]; exact hy
  rcases y with _ | ⟨b, v⟩
  · rw [add_none]; exact hx
  have h1 := hx a u rfl
  have h2 := hy b v rfl
  intro c t h
  rw [add_some] at h
  split at h
  · simp at h; omega
  · split at h <;> (simp at h; omega)
theorem sh_pos {x : S} (k : Nat) (hx : pos x) : pos (sh k x) := by
  rcases x with _ | ⟨a, u⟩
  · intro a u h; cases h
  · intro c t h
    have := hx a u rfl
    simp [sh] at h; omega
theorem sum_pos : ∀ l : List S, (∀ x ∈ l, pos x) → pos (sum l)
  | [], _ => fun _ _ h => by cases h
  | x :: l, h => add_pos (h x (List.mem_cons_self ..)) (sum_pos l fun y hy => h y (List.mem_cons_of_mem _ hy))
theorem one_pos : pos one := fun a u h => by simp [one] at h; omega
theorem none_pos : pos none := fun _ _ h => by cases h
theorem Net.toF_pos (G : Net) : ∀ f i, pos (G.toF f i)
  | 0, i => by
    simp only [Net.toF]
    split
    · exact one_pos
    · exact none_pos
  | f + 1, i => by
    simp only [Net.toF]
    split
    · exact one_pos
    · split
      · exact none_pos
      · refine sum_pos _ fun x hx => ?_
        obtain ⟨e, _, rfl⟩ := List.mem_map.1 hx
        exact sh_pos _ (Net.toF_pos G f _)
theorem Net.to_pos (G : Net) (i : Nat) : pos (G.to i) := G.toF_pos _ _
theorem add_le_left {x : S} {n : Nat} (y : S) (h : le x n) : le (add x y) n := by
  obtain ⟨b, v, rfl, hb⟩ := h
  rcases y with _ | ⟨c, t⟩
  · exact ⟨b, v, rfl, hb⟩
  · rw [add_some]
    by_cases h1 : b < c
    · exact ⟨b, v, if_pos h1, hb⟩
    · by_cases h2 : c < b
      · exact ⟨c, t, by rw [if_neg h1, if_pos h2], by omega⟩
      · exact ⟨b, v + t, by rw [if_neg h1, if_neg h2], hb⟩
theorem add_le_right {y : S} {n : Nat} (x : S) (h : le y n) : le (add x y) n := by rw [add_comm]; exact add_le_left x h
theorem sum_le {x : S} {n : Nat} : ∀ l : List S, x ∈ l → le x n → le (sum l) n
  | [], h, _ => by cases h
  | y :: l, h, hx => by
    rcases List.mem_cons.1 h with rfl | h
    · exact add_le_left _ hx
    · exact add_le_right _ (sum_le l h hx)
theorem sh_le {x : S} {n : Nat} (k : Nat) (h : le x n) : le (sh k x) (k + n) := by
  obtain ⟨b, v, rfl, hb⟩ := h
  exact ⟨b + k, v, rfl, by omega⟩
/-- No way costs less. -/
theorem Net.path_le (G : Net) : ∀ (es : List (Nat × Nat)) (i : Nat), G.path i es → le (G.to i) (pathCost es)
  | [], i, h => by
    rw [show i = G.N from h, G.to_end]
    exact ⟨0, 1, rfl, Nat.zero_le _⟩
  | e :: es, i, h => by
    obtain ⟨hi, he, hp⟩ := h
    have ih := Net.path_le G es _ hp
    rw [G.to_step i hi]
    refine sum_le _ (List.mem_map.2 ⟨e, he, rfl⟩) ?_
    have := sh_le e.2 ih
    simpa [pathCost] using this
theorem sum_mem : ∀ (l : List S) (b v : Nat), sum l = some (b, v) → ∃ u, some (b, u) ∈ l
  | [], b, v, h => by cases h
  | x :: l, b, v, h => by
    simp only [sum] at h
    rcases x with _ | ⟨a, u⟩
    · rw [none_add] at h
      obtain ⟨u, hu⟩ := sum_mem l b v h
      exact ⟨u, List.mem_cons_of_mem _ hu⟩
    · rcases hs : sum l with _ | ⟨c, t⟩
      · rw [hs, add_none] at h
        simp at h
        exact ⟨u, by rw [h.1]; exact List.mem_cons_self ..⟩
      · rw [hs, add_some] at h
        split at h
        · simp at h
          exact ⟨u, by rw [h.1]; exact List.mem_cons_self ..⟩
        · split at h
          · simp at h
            obtain ⟨u', hu⟩ := sum_mem l c t hs
            exact ⟨u', by rw [← h.1]; exact List.mem_cons_of_mem _ hu⟩
          · simp at h
            exact ⟨u, by rw [h.1]; exact List.mem_cons_self ..⟩
/-- And one has just that cost. -/
theorem Net.path_is (G : Net) : ∀ (k i : Nat), i ≤ G.N → G.N - i ≤ k → ∀ m w, G.to i = some (m, w) → ∃ es, G.path i es ∧ pathCost es = m
  | k, i, hi, hk, m, w, h => by
    rcases Nat.lt_or_ge i G.N with hlt | hge
    · rw [G.to_step i hlt] at h
      obtain ⟨u, hu⟩ := sum_mem _ _ _ h
      obtain ⟨e, he, hx⟩ := List.mem_map.1 hu
      have hf := G.far i hlt e he
      rcases ht : G.to (i + e.1) with _ | ⟨a, v⟩
      · rw [ht] at hx; cases hx
      · rw [ht] at hx
        simp [sh] at hx
        match k, hk with
        | 0, hk => omega
        | k + 1, hk =>
          obtain ⟨es, hp, hc⟩ := Net.path_is G k (i + e.1) hf.2 (by omega) a v ht
          refine ⟨e :: es, ⟨hlt, he, hp⟩, ?_⟩
          simp [pathCost] at *
          omega
    · have : i = G.N := by omega
      subst this
      rw [G.to_end] at h
      simp [one] at h
      exact ⟨[], rfl, by simp [pathCost]; omega⟩
end Dp
end Go.Proofs.YtnpnaglgllcpfaaGreat

/- Plain facts on tokens that make a piece, of no program: they are the ways through its places. -/
namespace Go.Proofs.YtnpnaglgllcpfaaGreat

/-- So many bytes from i on are those from d back on. -/
def Alike (p : List UInt8) (i d n : Nat) : Prop := i + n ≤ p.length ∧ ∀ m, m < n → p.getD (i + m) 0 = p.getD (i + m - d) 0
/-- .. and no more. -/
def AlikeMost (p : List UInt8) (i d n : Nat) : Prop := Alike p i d n ∧ (i + n = p.length ∨ p.getD (i + n) 0 ≠ p.getD (i + n - d) 0)

def alkGo (p : List UInt8) (d : Nat) : Nat → Nat → Nat
  | 0, _ => 0
  | f + 1, j => if p.getD j 0 = p.getD (j - d) 0 then alkGo p d f (j + 1) + 1 else 0
/-- How many bytes from i on are those from d back on. -/
def alk (p : List UInt8) (i d : Nat) : Nat := alkGo p d (p.length - i) i

theorem alkGo_most (p : List UInt8) (d : Nat) : ∀ (f i : Nat), i + f = p.length → AlikeMost p i d (alkGo p d f i)
  | 0, i, h => ⟨⟨by simp [alkGo]; omega, fun m hm => by simp [alkGo] at hm⟩, .inl (by simp [alkGo]; omega)⟩
  | f + 1, i, h => by
    simp only [alkGo]
    by_cases he : p.getD i 0 = p.getD (i - d) 0
    · rw [if_pos he]
      obtain ⟨⟨h1, h2⟩, h3⟩ := alkGo_most p d f (i + 1) (by omega)
      refine ⟨⟨by omega, fun m hm => ?_⟩, ?_⟩
      · match m with
        | 0 => simpa using he
        | m + 1 =>
          have := h2 m (by omega)
          rw [show i + 1 + m = i + (m + 1) by omega] at this
          exact this
      · rw [show i + (alkGo p d f (i + 1) + 1) = i + 1 + alkGo p d f (i + 1) by omega]
        exact h3
    · rw [if_neg he]
      exact ⟨⟨by omega, fun m hm => by omega⟩, .inr (by simpa using he)⟩
theorem alk_most (p : List UInt8) (i d : Nat) (h : i ≤ p.length) : AlikeMost p i d (alk p i d) := alkGo_most p d _ i (by omega)
theorem AlikeMost.le {p : List UInt8} {i d n m : Nat} (h : AlikeMost p i d n) (hm : Alike p i d m) : m ≤ n := by
  rcases Nat.lt_or_ge n m with hlt | hge
  · have h1 := hm.1
    have h2 := hm.2 n hlt
    rcases h.2 with h3 | h3
    · omega
    · exact absurd h2 h3
  · exact hge
theorem AlikeMost.eq {p : List UInt8} {i d n m : Nat} (h : AlikeMost p i d n) (k : AlikeMost p i d m) : n = m :=
  Nat.le_antisymm (k.le h.1) (h.le k.1)
theorem Alike.mono {p : List UInt8} {i d n m : Nat} (h : Alike p i d n) (hm : m ≤ n) : Alike p i d m :=
  ⟨by have := h.1; omega, fun k hk => h.2 k (by omega)⟩

/-- The copies from one distance back. -/
def copies (p : List UInt8) (i d : Nat) : List Tok := (List.range (alk p i d - 1)).map fun (l : Nat) => ⟨(l : Int) + 2, d, 0⟩
def literal (p : List UInt8) (i : Nat) : Tok := ⟨1, 0, (p.getD i 0).toNat⟩
/-- The tokens that may stand at a place of a piece. -/
def outToks (p : List UInt8) (i : Nat) : List Tok := literal p i :: (List.range (min 32 i)).flatMap fun d => copies p i (d + 1)

theorem mem_outToks (p : List UInt8) (i : Nat) (t : Tok) : t ∈ outToks p i ↔ t = literal p i ∨ ∃ d l : Nat, 1 ≤ d ∧ d ≤ 32 ∧ d ≤ i ∧ 2 ≤ l ∧ l ≤ alk p i d ∧ t = ⟨l, d, 0⟩ := by
  unfold outToks copies
  simp only [List.mem_cons, List.mem_flatMap, List.mem_map, List.mem_range]
  constructor
  · rintro (h | ⟨d, hd, l, hl, rfl⟩)
    · exact .inl h
    · exact .inr ⟨d + 1, l + 2, by omega, by omega, by omega, by omega, by omega, by simp⟩
  · rintro (h | ⟨d, l, h1, h2, h3, h4, h5, rfl⟩)
    · exact .inl h
    · refine .inr ⟨d - 1, by omega, l - 2, by rw [show d - 1 + 1 = d by omega]; omega, ?_⟩
      rw [show d - 1 + 1 = d by omega]
      congr 1
      omega

theorem out_len (p : List UInt8) (i : Nat) (hi : i < p.length) (t : Tok) (h : t ∈ outToks p i) : 1 ≤ t.len ∧ i + t.len.toNat ≤ p.length ∧ t.dist ≤ 32 ∧ 0 ≤ t.dist := by
  rcases (mem_outToks p i t).1 h with rfl | ⟨d, l, h1, h2, h3, h4, h5, rfl⟩
  · exact ⟨by simp [literal], by simp [literal]; omega, by simp [literal], by simp [literal]⟩
  · have := (alk_most p i d (by omega)).1.1
    exact ⟨by simp; omega, by simp; omega, by simp; omega, by simp⟩

/-- The places of a piece. -/
def net (p : List UInt8) : Dp.Net where
  N := p.length
  E := fun i => (outToks p i).map fun t => (t.len.toNat, t.cost)
  far := fun i hi e he => by
    obtain ⟨t, ht, rfl⟩ := List.mem_map.1 he
    have := out_len p i hi t ht
    exact ⟨by simp only; omega, this.2.1⟩

/-- Tokens that lead from a place to the end. -/
def tpath (p : List UInt8) : Nat → List Tok → Prop
  | i, [] => i = p.length
  | i, t :: ts => i < p.length ∧ t ∈ outToks p i ∧ tpath p (i + t.len.toNat) ts

theorem tpath_path (p : List UInt8) : ∀ (ts : List Tok) (i : Nat), tpath p i ts → (net p).path i (ts.map fun t => (t.len.toNat, t.cost)) ∧ Dp.pathCost (ts.map fun t => (t.len.toNat, t.cost)) = Tok.costs ts
  | [], i, h => ⟨h, rfl⟩
  | t :: ts, i, h => by
    obtain ⟨h1, h2, h3⟩ := h
    have ih := tpath_path p ts _ h3
    refine ⟨⟨h1, List.mem_map.2 ⟨t, h2, rfl⟩, ih.1⟩, ?_⟩
    have h4 := ih.2
    simp [Dp.pathCost, Tok.costs] at h4 ⊢
    omega
theorem path_tpath (p : List UInt8) : ∀ (es : List (Nat × Nat)) (i : Nat), (net p).path i es → ∃ ts, tpath p i ts ∧ Tok.costs ts = Dp.pathCost es
  | [], i, h => ⟨[], h, rfl⟩
  | e :: es, i, h => by
    obtain ⟨h1, h2, h3⟩ := h
    obtain ⟨t, ht, rfl⟩ := List.mem_map.1 h2
    obtain ⟨ts, h4, h5⟩ := path_tpath p es _ h3
    refine ⟨t :: ts, ⟨h1, ht, h4⟩, ?_⟩
    simp [Dp.pathCost, Tok.costs] at h5 ⊢
    omega

theorem getD_take (p : List UInt8) (n k : Nat) (h : k < n) : (p.take n).getD k 0 = p.getD k 0 := by
  simp [List.getD, h]
theorem take_next (p : List UInt8) (n : Nat) (h : n < p.length) : p.take (n + 1) = p.take n ++ [p.getD n 0] := by
  rw [List.take_succ_eq_append_getElem h]; simp [List.getD, h]

/-- A copy goes on as the piece does just where it is alike. -/
theorem copyN_take (p : List UInt8) (i d : Nat) (hd : 1 ≤ d) (hdi : d ≤ i) : ∀ l, i + l ≤ p.length → (Tok.copyN l d (p.take i) = p.take (i + l) ↔ Alike p i d l)
  | 0, h => ⟨fun _ => ⟨h, fun m hm => by omega⟩, fun _ => rfl⟩
  | l + 1, h => by
    have ih := copyN_take p i d hd hdi l (by omega)
    rw [Tok.copyN_succ, show i + (l + 1) = i + l + 1 by omega, take_next p (i + l) (by omega)]
    constructor
    · intro he
      obtain ⟨e1, e2⟩ := List.append_inj' he rfl
      have hal := ih.1 e1
      refine ⟨by omega, fun m hm => ?_⟩
      rcases Nat.lt_or_ge m l with hlt | hge
      · exact hal.2 m hlt
      · have : m = l := by omega
        subst this
        rw [e1, List.length_take, Nat.min_eq_left (by omega), getD_take p _ _ (by omega)] at e2
        simp at e2
        simpa using e2.symm
    · intro hal
      have e1 := ih.2 (hal.mono (by omega))
      rw [e1, List.length_take, Nat.min_eq_left (by omega), getD_take p _ _ (by omega), hal.2 l (by omega)]

theorem copyN_prefix (d : Nat) : ∀ (n : Nat) (out : List UInt8), ∃ r, Tok.copyN n d out = out ++ r
  | 0, out => ⟨[], by simp [Tok.copyN]⟩
  | n + 1, out => by
    obtain ⟨r, hr⟩ := copyN_prefix d n (out ++ [out.getD (out.length - d) 0])
    exact ⟨[out.getD (out.length - d) 0] ++ r, by rw [Tok.copyN, hr, List.append_assoc]⟩
theorem step_prefix (out : List UInt8) (t : Tok) : ∃ r, Tok.step out t = out ++ r := by
  unfold Tok.step
  split
  · exact ⟨_, rfl⟩
  · exact copyN_prefix _ _ _
theorem expand_prefix : ∀ (ts : List Tok) (out o : List UInt8), Tok.expand out ts = some o → ∃ r, o = out ++ r
  | [], out, o, h => ⟨[], by simp [Tok.expand] at h; simp [h]⟩
  | t :: ts, out, o, h => by
    simp only [Tok.expand] at h
    split at h
    · obtain ⟨r, hr⟩ := expand_prefix ts _ o h
      obtain ⟨r', hr'⟩ := step_prefix out t
      exact ⟨r' ++ r, by rw [hr, hr', List.append_assoc]⟩
    · cases h
theorem prefix_take {a o r : List UInt8} (h : o = a ++ r) : a = o.take a.length := by rw [h]; simp

/-- A token that may stand at a place of a piece takes it on to the place behind. -/
theorem out_step (p : List UInt8) (hp : p.length ≤ 64) (i : Nat) (hlt : i < p.length) (t : Tok) (hmem : t ∈ outToks p i) : Tok.fitsB t i = true ∧ Tok.step (p.take i) t = p.take (i + t.len.toNat) := by
  rcases (mem_outToks p i t).1 hmem with rfl | ⟨d, l, h1, h2, h3, h4, h5, rfl⟩
  · refine ⟨?_, ?_⟩
    · rw [Tok.fits_iff]
      have hb := (p.getD i 0).toNat_lt
      unfold literal
      generalize (p.getD i 0).toNat = y at *
      simp
      omega
    · have : Tok.step (p.take i) (literal p i) = p.take i ++ [UInt8.ofNat (((p.getD i 0).toNat : Int)).toNat] := if_pos rfl
      rw [this, Int.toNat_natCast, show (literal p i).len.toNat = 1 from rfl, take_next p i hlt]
      simp
  · have hal := (alk_most p i d (by omega)).1.mono h5
    have hal1 := hal.1
    refine ⟨?_, ?_⟩
    · rw [Tok.fits_iff]
      simp
      omega
    · have hs1 : Tok.step (p.take i) ⟨l, d, 0⟩ = Tok.copyN l d (p.take i) := by
        unfold Tok.step
        refine (if_neg (show ¬ (d : Int) = 0 by omega)).trans ?_
        simp
      rw [hs1]
      simp only [Int.toNat_natCast]
      exact (copyN_take p i d h1 h3 l hal1).2 hal

/-- Right tokens that make the piece are the ways through it. -/
theorem expand_tpath (p : List UInt8) (hp : p.length ≤ 64) : ∀ (ts : List Tok) (i : Nat), i ≤ p.length → (Tok.expand (p.take i) ts = some p ↔ tpath p i ts)
  | [], i, hi => by
    simp only [Tok.expand, tpath, Option.some.injEq]
    constructor
    · intro h
      have := congrArg List.length h
      rw [List.length_take] at this
      omega
    · intro h
      rw [h, List.take_length]
  | t :: ts, i, hi => by
    have hlen : (p.take i).length = i := by rw [List.length_take]; omega
    simp only [Tok.expand, tpath, hlen]
    constructor
    · intro h
      split at h
      case isFalse => cases h
      case isTrue hf =>
        have hsl := Tok.step_length (p.take i) t _ hf
        rw [hlen] at hsl
        obtain ⟨r, hr⟩ := expand_prefix ts _ p h
        have hpl := congrArg List.length hr
        rw [List.length_append] at hpl
        have hst := prefix_take hr
        have hff := (Tok.fits_iff t i).1 hf
        have ht1 : 1 ≤ t.len := by omega
        have hn : (Tok.step (p.take i) t).length = i + t.len.toNat := by omega
        rw [hn] at hst
        have hlt : i < p.length := by omega
        have hmem : t ∈ outToks p i := by
          rw [mem_outToks]
          rcases hff.1 with ⟨h1, h2, h3, h4⟩ | ⟨h1, h2, h3, h4⟩
          · left
            obtain ⟨l, d, b⟩ := t
            simp only at h1 h2 h3 h4 hst
            subst h1 h2
            have hs1 : Tok.step (p.take i) ⟨1, 0, b⟩ = p.take i ++ [UInt8.ofNat b.toNat] := if_pos rfl
            rw [hs1, show i + (1 : Int).toNat = i + 1 from rfl, take_next p i hlt] at hst
            obtain ⟨_, e2⟩ := List.append_inj' hst rfl
            simp only [List.cons.injEq, and_true] at e2
            have e3 := congrArg UInt8.toNat e2
            simp at e3
            unfold literal
            congr 1
            rw [← e2]
            simp
            omega
          · right
            obtain ⟨l, d, b⟩ := t
            simp only at h1 h2 h3 h4 hst hff hpl ht1 hn
            obtain ⟨L, rfl⟩ : ∃ L : Nat, l = (L : Int) := ⟨l.toNat, by omega⟩
            obtain ⟨D, rfl⟩ : ∃ D : Nat, d = (D : Int) := ⟨d.toNat, by omega⟩
            subst h4
            have hs1 : Tok.step (p.take i) ⟨L, D, 0⟩ = Tok.copyN L D (p.take i) := by
              unfold Tok.step
              refine (if_neg (show ¬ (D : Int) = 0 by omega)).trans ?_
              simp
            rw [hs1, Int.toNat_natCast] at hst
            have hal := (copyN_take p i D (by omega) (by omega) L (by simp at hn; omega)).1 hst
            exact ⟨D, L, by omega, by omega, by omega, by omega, (alk_most p i D hi).le hal, rfl⟩
        refine ⟨hlt, hmem, (expand_tpath p hp ts _ (by omega)).1 ?_⟩
        rw [← hst]; exact h
    · rintro ⟨hlt, hmem, hrest⟩
      have hl := out_len p i hlt t hmem
      have hr := (expand_tpath p hp ts _ hl.2.1).2 hrest
      have key := out_step p hp i hlt t hmem
      rw [if_pos key.1, key.2]
      exact hr

/-- There is always a way: literals. -/
theorem tpath_lits (p : List UInt8) : ∀ (k i : Nat), i + k = p.length → ∃ ts, tpath p i ts ∧ Tok.costs ts = 9 * k
  | 0, i, h => ⟨[], by simpa [tpath] using h, rfl⟩
  | k + 1, i, h => by
    obtain ⟨ts, h1, h2⟩ := tpath_lits p k (i + 1) (by omega)
    refine ⟨literal p i :: ts, ⟨by omega, (mem_outToks p i _).2 (.inl rfl), h1⟩, ?_⟩
    have : (literal p i).cost = 9 := if_pos rfl
    simp [Tok.costs] at h2 ⊢
    omega
/-- What is known of a place, from there to the end: a cost of at most 9 a byte, at least one way. -/
theorem to_some (p : List UInt8) (i : Nat) (hi : i ≤ p.length) : ∃ m w, (net p).to i = some (m, w) ∧ m ≤ 9 * (p.length - i) ∧ 1 ≤ w := by
  obtain ⟨ts, h1, h2⟩ := tpath_lits p (p.length - i) i (by omega)
  obtain ⟨h3, h4⟩ := tpath_path p ts i h1
  obtain ⟨b, v, h5, h6⟩ := (net p).path_le _ _ h3
  exact ⟨b, v, h5, by omega, (net p).to_pos i b v h5⟩
/-- No tokens that make the piece cost less than what is known of its beginning. -/
theorem least_le (p : List UInt8) (hp : p.length ≤ 64) (ts : List Tok) (h : Tok.expand [] ts = some p) (m w : Nat) (hm : (net p).to 0 = some (m, w)) : m ≤ Tok.costs ts := by
  have h1 := (expand_tpath p hp ts 0 (by omega)).1 (by simpa using h)
  obtain ⟨h3, h4⟩ := tpath_path p ts 0 h1
  obtain ⟨b, v, h5, h6⟩ := (net p).path_le _ _ h3
  rw [hm] at h5
  simp at h5
  omega
end Go.Proofs.YtnpnaglgllcpfaaGreat

/- Plain facts on tables of least costs and of counts that are cut at 1,000,000,000, of no program. -/
namespace Go.Proofs.YtnpnaglgllcpfaaGreat
open Dp

def cap9 (n : Int) : Int := min n 1000000000
def meetC (cs : List Int) (at' : Nat) (cost : Int) : List Int := if cost < cs.getD at' 0 then cs.set at' cost else cs
def meetW (cs ws : List Int) (at' : Nat) (cost ways : Int) : List Int := if cost < cs.getD at' 0 then ws.set at' (cap9 ways) else if cost = cs.getD at' 0 then ws.set at' (cap9 (ws.getD at' 0 + ways)) else ws

theorem cap9_cap9 (n : Int) : cap9 (cap9 n) = cap9 n := by unfold cap9; omega
theorem cap9_add (a b : Nat) : cap9 (cap9 (a : Int) + cap9 (b : Int)) = cap9 ((a + b : Nat) : Int) := by unfold cap9; omega
theorem cap9_range (a : Nat) : 0 ≤ cap9 (a : Int) ∧ cap9 (a : Int) ≤ 1000000000 := by unfold cap9; omega

/-- A cost and a count that stand for what is known. -/
def RepAt (c w : Int) : S → Prop
  | none => c = 1073741824 ∧ w = 0
  | some (a, u) => c = (a : Int) ∧ w = cap9 (u : Int)
/-- Two lists stand for what is known of the places 0 to n. -/
structure Rep (n : Nat) (cs ws : List Int) (A : Tab) : Prop where
  lc : cs.length = n + 1
  lw : ws.length = n + 1
  at' : ∀ j, j ≤ n → RepAt (cs.getD j 0) (ws.getD j 0) (A j)

theorem getD_set (l : List Int) (k j : Nat) (x : Int) : (l.set k x).getD j 0 = if k = j ∧ j < l.length then x else l.getD j 0 := by
  simp only [List.getD, List.getElem?_set]
  by_cases h : k = j
  · subst h
    by_cases h2 : k < l.length
    · simp [h2]
    · simp [h2]
  · simp [h]
theorem RepAt.ways {c w : Int} {x : S} (h : RepAt c w x) : 0 ≤ w ∧ w ≤ 1000000000 := by
  rcases x with _ | ⟨a, u⟩
  · obtain ⟨_, rfl⟩ := h; omega
  · obtain ⟨_, rfl⟩ := h; exact cap9_range u

theorem Rep.meet {n : Nat} {cs ws : List Int} {A : Tab} (h : Rep n cs ws A) (j : Nat) (hj : j ≤ n) (b v : Nat) (hb : b < 1073741824) : Rep n (meetC cs j b) (meetW cs ws j b (cap9 v)) (upd A j (some (b, v))) := by
  have hcj := h.lc
  have hwj := h.lw
  have hA := h.at' j hj
  have lc : (meetC cs j b).length = n + 1 := by unfold meetC; split <;> simp [hcj]
  have lw : (meetW cs ws j b (cap9 v)).length = n + 1 := by unfold meetW; split; simp [hwj]; split <;> simp [hwj]
  refine ⟨lc, lw, fun k hk => ?_⟩
  by_cases hkj : k = j
  · subst hkj
    rw [show upd A k (some (b, v)) k = add (A k) (some (b, v)) from if_pos rfl]
    unfold meetC meetW
    rcases hx : A k with _ | ⟨a, u⟩
    · rw [hx] at hA
      obtain ⟨e1, e2⟩ := hA
      rw [e1, if_pos (by omega), if_pos (by omega), none_add, getD_set, getD_set, if_pos ⟨rfl, by omega⟩, if_pos ⟨rfl, by omega⟩]
      exact ⟨rfl, cap9_cap9 _⟩
    · rw [hx] at hA
      obtain ⟨e1, e2⟩ := hA
      rw [e1, add_some]
      by_cases h1 : b < a
      · rw [if_pos (by omega), if_pos (by omega), if_neg (by omega), if_pos h1, getD_set, getD_set, if_pos ⟨rfl, by omega⟩, if_pos ⟨rfl, by omega⟩]
        exact ⟨rfl, cap9_cap9 _⟩
      · by_cases h2 : a < b
        · rw [if_neg (by omega), if_neg (by omega), if_neg (by omega), if_pos h2]
          exact ⟨e1, e2⟩
        · have hab : a = b := by omega
          subst hab
          rw [if_neg (by omega), if_neg (by omega), if_pos rfl, if_neg (by omega), if_neg (by omega), getD_set, if_pos ⟨rfl, by omega⟩, e2]
          exact ⟨e1, cap9_add u v⟩
  · rw [show upd A j (some (b, v)) k = A k from if_neg hkj]
    have hr := h.at' k hk
    have e1 : (meetC cs j b).getD k 0 = cs.getD k 0 := by
      unfold meetC
      split
      · rw [getD_set, if_neg (fun h => hkj h.1.symm)]
      · rfl
    have e2 : (meetW cs ws j b (cap9 v)).getD k 0 = ws.getD k 0 := by
      unfold meetW
      split
      · rw [getD_set, if_neg (fun h => hkj h.1.symm)]
      · split
        · rw [getD_set, if_neg (fun h => hkj h.1.symm)]
        · rfl
    rw [e1, e2]; exact hr

/-- Nothing is known but of one place. -/
theorem Rep.blank (n at' : Nat) (h : at' ≤ n) : Rep n ((List.replicate (n + 1) 1073741824).set at' 0) ((List.replicate (n + 1) 0).set at' 1) (fun j => if j = at' then one else none) := by
  refine ⟨by simp, by simp, fun j hj => ?_⟩
  rw [getD_set, getD_set]
  by_cases hja : j = at'
  · subst hja
    rw [if_pos ⟨rfl, by simp; omega⟩, if_pos ⟨rfl, by simp; omega⟩, if_pos rfl]
    exact ⟨rfl, by unfold cap9; omega⟩
  · rw [if_neg (fun h => hja h.1.symm), if_neg (fun h => hja h.1.symm), if_neg hja]
    refine ⟨?_, ?_⟩
    · simp [List.getD, hj, Nat.lt_succ_of_le]
    · simp [List.getD, hj, Nat.lt_succ_of_le]

theorem push_append (x : S) (i : Nat) : ∀ (a b : List (Nat × Nat)) (A : Tab), push x i (a ++ b) A = push x i b (push x i a A)
  | [], b, A => rfl
  | e :: a, b, A => by simp only [List.cons_append, push, push_append x i a b]
theorem le_mono {x : S} {n m : Nat} (h : le x n) (hm : n ≤ m) : le x m := by
  obtain ⟨b, v, h1, h2⟩ := h
  exact ⟨b, v, h1, by omega⟩
theorem push_le (x : S) (i k n : Nat) : ∀ (es : List (Nat × Nat)) (A : Tab), le (A k) n → le (push x i es A k) n
  | [], A, h => h
  | e :: es, A, h => by
    rw [push]
    refine push_le x i k n es _ ?_
    by_cases hk : k = i + e.1
    · rw [show upd A (i + e.1) (sh e.2 x) k = add (A (i + e.1)) (sh e.2 x) from if_pos hk, ← hk]
      exact add_le_left _ h
    · rw [show upd A (i + e.1) (sh e.2 x) k = A k from if_neg hk]
      exact h
/-- From the beginning on a place costs at most 9 a byte. -/
theorem from_le (p : List UInt8) : ∀ i, i ≤ p.length → le ((net p).from i i) (9 * i)
  | 0, _ => ⟨0, 1, by simp [Net.from, one], Nat.le_refl _⟩
  | i + 1, h => by
    have ih := from_le p i (by omega)
    have hE : (net p).E i = (1, 9) :: ((List.range (min 32 i)).flatMap fun d => copies p i (d + 1)).map fun t => (t.len.toNat, t.cost) := by
      show (outToks p i).map (fun t => (t.len.toNat, t.cost)) = _
      unfold outToks
      rw [List.map_cons]
      rfl
    rw [Net.from, hE, push]
    refine push_le _ _ _ _ _ _ ?_
    rw [show upd ((net p).from i) (i + 1) (sh 9 ((net p).from i i)) (i + 1) = add ((net p).from i (i + 1)) (sh 9 ((net p).from i i)) from if_pos rfl]
    exact add_le_right _ (le_mono (sh_le 9 ih) (by omega))
theorem from_some (p : List UInt8) (i : Nat) (h : i ≤ p.length) : ∃ a u, (net p).from i i = some (a, u) ∧ a ≤ 9 * i := from_le p i h

/-- The copies' steps from one distance, the first k of them; all from the distances 1 to D. -/
def stepsD (d k : Nat) : List (Nat × Nat) := (List.range k).map fun l => (l + 2, 1 + Tok.numLen (l + 1) + Tok.numLen d)
def stepsTo (p : List UInt8) (i D : Nat) : List (Nat × Nat) := (List.range D).flatMap fun d => stepsD (d + 1) (alk p i (d + 1) - 1)
theorem stepsD_succ (d k : Nat) : stepsD d (k + 1) = stepsD d k ++ [(k + 2, 1 + Tok.numLen (k + 1) + Tok.numLen d)] := by simp [stepsD, List.range_succ]
theorem stepsTo_succ (p : List UInt8) (i D : Nat) : stepsTo p i (D + 1) = stepsTo p i D ++ stepsD (D + 1) (alk p i (D + 1) - 1) := by simp [stepsTo, List.range_succ]
theorem cost_copy (l d : Nat) (h : 1 ≤ d) : Tok.cost ⟨(l : Int) + 2, (d : Int), 0⟩ = 1 + Tok.numLen (l + 1) + Tok.numLen d := by
  have hd : ¬ (d : Int) = 0 := by omega
  simp only [Tok.cost]
  rw [if_neg hd, show ((l : Int) + 2 - 1).toNat = l + 1 by omega, Int.toNat_natCast]
theorem net_steps (p : List UInt8) (i : Nat) : (net p).E i = (1, 9) :: stepsTo p i (min 32 i) := by
  show (outToks p i).map (fun t => (t.len.toNat, t.cost)) = _
  unfold outToks stepsTo
  rw [List.map_cons, List.map_flatMap]
  refine congrArg (fun f => (1, 9) :: List.flatMap f (List.range (min 32 i))) (funext fun d => ?_)
  unfold copies stepsD
  rw [List.map_map]
  apply List.map_congr_left
  intro l _
  simp only [Function.comp]
  refine Prod.ext ?_ ?_
  · simp only; omega
  · exact cost_copy l (d + 1) (by omega)
end Go.Proofs.YtnpnaglgllcpfaaGreat
