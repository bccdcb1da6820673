/-
  The order of the best lists, plainly: of two of them, the one with the greater number of others ahead stands later.
-/
import Derived.Test.YtnpnaglgllcpfabStA
namespace Go.Proofs.Ytnpnaglgllcpfab
set_option maxRecDepth 100000
open Dp

/-- How many have just this cost. -/
def val (c : Nat) : S → Nat
  | some (a, u) => if a = c then u else 0
  | none => 0
def notBelow (c : Nat) (x : S) : Prop := ∀ a u, x = some (a, u) → c ≤ a
theorem val_add (c : Nat) (x y : S) (hx : notBelow c x) (hy : notBelow c y) : val c (add x y) = val c x + val c y ∧ notBelow c (add x y) := by
  rcases x with _ | ⟨a, u⟩
  · rw [none_add]; exact ⟨by simp [val], hy⟩
  rcases y with _ | ⟨b, v⟩
  · rw [add_none]; exact ⟨by simp [val], hx⟩
  have h1 := hx a u rfl
  have h2 := hy b v rfl
  rw [add_some]
  split
  · refine ⟨?_, fun a' u' h => by simp at h; omega⟩
    simp only [val]
    rw [if_neg (show ¬ b = c by omega)]; rfl
  · split
    · refine ⟨?_, fun a' u' h => by simp at h; omega⟩
      simp only [val]
      rw [if_neg (show ¬ a = c by omega)]; omega
    · have : a = b := by omega
      subst this
      refine ⟨?_, fun a' u' h => by simp at h; omega⟩
      simp only [val]
      split <;> omega
theorem val_sum (c : Nat) : ∀ l : List S, (∀ x ∈ l, notBelow c x) → val c (sum l) = (l.map (val c)).sum ∧ notBelow c (sum l)
  | [], _ => ⟨rfl, fun a u h => by cases h⟩
  | x :: l, h => by
    obtain ⟨h1, h2⟩ := val_sum c l fun y hy => h y (List.mem_cons_of_mem _ hy)
    obtain ⟨h3, h4⟩ := val_add c x (sum l) (h x (List.mem_cons_self ..)) h2
    simp only [sum, List.map_cons, List.sum_cons]
    exact ⟨by rw [h3, h1], h4⟩

/-- From a place to the end: how many lists have the least cost. -/
def waysN (p : List UInt8) (j : Nat) : Nat := match (net p).to j with | some (_, u) => u | none => 0
theorem capW_is (p : List UInt8) (j : Nat) : capW p j = min (waysN p j) 1000000000 := by
  unfold capW waysN
  rcases (net p).to j with _ | ⟨a, u⟩ <;> simp
theorem to_is (p : List UInt8) (j : Nat) (h : j ≤ p.length) : (net p).to j = some (toC p j, waysN p j) := by
  obtain ⟨m, u, h1, _⟩ := to_some p j h
  unfold toC waysN
  rw [h1]
theorem out_sum (p : List UInt8) (j : Nat) (h : j < p.length) : (net p).to j = sum ((outToks p j).map fun t => sh t.cost ((net p).to (j + t.len.toNat))) := by
  have h1 := (net p).to_step j h
  rw [h1]
  show sum (((outToks p j).map fun t => (t.len.toNat, t.cost)).map _) = _
  rw [List.map_map]
  rfl
theorem toC_step (p : List UInt8) (j : Nat) (h : j < p.length) (x : Tok) (hx : x ∈ outToks p j) : toC p j ≤ x.cost + toC p (j + x.len.toNat) := by
  have hl := out_len p j h x hx
  have h1 : le (sh x.cost ((net p).to (j + x.len.toNat))) (x.cost + toC p (j + x.len.toNat)) := sh_le _ ⟨_, _, to_is p _ hl.2.1, Nat.le_refl _⟩
  have h2 := sum_le ((outToks p j).map fun t => sh t.cost ((net p).to (j + t.len.toNat))) (List.mem_map.2 ⟨x, hx, rfl⟩) h1
  rw [← out_sum p j h, to_is p j (by omega)] at h2
  obtain ⟨b, v, e, h3⟩ := h2
  simp at e
  omega
/-- The ways from a place: those by each token that keeps to the least cost. -/
theorem ways_step (p : List UInt8) (j : Nat) (h : j < p.length) : waysN p j = ((outToks p j).map fun x => if x.cost + toC p (j + x.len.toNat) = toC p j then waysN p (j + x.len.toNat) else 0).sum := by
  have h1 := (val_sum (toC p j) ((outToks p j).map fun t => sh t.cost ((net p).to (j + t.len.toNat))) (fun y hy => by
    obtain ⟨x, hx, rfl⟩ := List.mem_map.1 hy
    have hl := out_len p j h x hx
    intro a u e
    rw [to_is p _ hl.2.1] at e
    have := toC_step p j h x hx
    simp [sh] at e
    omega)).1
  rw [← out_sum p j h, to_is p j (by omega)] at h1
  simp only [val, if_true] at h1
  rw [h1, List.map_map]
  congr 1
  apply List.map_congr_left
  intro x hx
  have hl := out_len p j h x hx
  simp only [Function.comp]
  rw [to_is p _ hl.2.1]
  simp only [sh, val]
  rw [Nat.add_comm]

theorem toC_costs (p : List UInt8) (ts : List Tok) (i : Nat) (hi : i ≤ p.length) (h : tpath p i ts) : toC p i ≤ Tok.costs ts := by
  obtain ⟨h1, h2⟩ := tpath_path p ts i h
  obtain ⟨b, v, e, h3⟩ := (net p).path_le _ _ h1
  rw [to_is p i hi] at e
  simp at e
  omega
theorem best_tail (p : List UInt8) (t : Tok) (ts : List Tok) (i : Nat) (h : tpath p i (t :: ts)) (hc : Tok.costs (t :: ts) = toC p i) :
    i < p.length ∧ t ∈ outToks p i ∧ tpath p (i + t.len.toNat) ts ∧ i + t.len.toNat ≤ p.length ∧ t.cost + toC p (i + t.len.toNat) = toC p i ∧ Tok.costs ts = toC p (i + t.len.toNat) := by
  obtain ⟨h1, h2, h3⟩ := h
  have hl := out_len p i h1 t h2
  have h4 := toC_costs p ts _ hl.2.1 h3
  have h5 := toC_step p i h1 t h2
  have h6 : Tok.costs (t :: ts) = t.cost + Tok.costs ts := by simp [Tok.costs]
  exact ⟨h1, h2, h3, hl.2.1, by omega, by omega⟩

/-- How many go ahead, not cut. -/
def aheadAll (p : List UInt8) : Nat → List Tok → Nat
  | _, [] => 0
  | i, t :: ts => aheadN p i t + aheadAll p (i + t.len.toNat) ts
theorem rankGo_is (p : List UInt8) : ∀ (ts : List Tok) (i acc : Nat), acc ≤ 1000000000 → rankGo p i acc ts = min (acc + aheadAll p i ts) 1000000000
  | [], i, acc, h => by simp [rankGo, aheadAll]; omega
  | t :: ts, i, acc, h => by
    simp only [rankGo, aheadAll]
    rw [rankGo_is p ts _ _ (by omega)]
    omega
theorem sum_more {α : Type} (f h : α → Nat) (t : α) : ∀ l : List α, t ∈ l → (∀ x ∈ l, f x ≤ h x) → (l.map f).sum + h t ≤ (l.map h).sum + f t
  | [], ht, _ => by cases ht
  | x :: l, ht, hle => by
    have hx := hle x (List.mem_cons_self ..)
    have hall : (l.map f).sum ≤ (l.map h).sum := by
      have : ∀ l' : List α, (∀ y ∈ l', f y ≤ h y) → (l'.map f).sum ≤ (l'.map h).sum := fun l' => by
        induction l' with
        | nil => intro _; simp
        | cons y l' ih =>
          intro hh
          have h1 := hh y (List.mem_cons_self ..)
          have h2 := ih fun z hz => hh z (List.mem_cons_of_mem _ hz)
          simp only [List.map_cons, List.sum_cons]
          omega
      exact this l fun y hy => hle y (List.mem_cons_of_mem _ hy)
    simp only [List.map_cons, List.sum_cons]
    rcases List.mem_cons.1 ht with rfl | ht
    · omega
    · have := sum_more f h t l ht fun y hy => hle y (List.mem_cons_of_mem _ hy)
      omega
theorem before_self (t : Tok) : beforeB t t = false := by
  unfold beforeB
  split <;> simp <;> omega
theorem before_trans (x y z : Tok) (h1 : beforeB x y = true) (h2 : beforeB y z = true) : beforeB x z = true := by
  unfold beforeB at *
  by_cases hx : x.dist = 0 <;> by_cases hy : y.dist = 0 <;> by_cases hz : z.dist = 0 <;> simp [hx, hy, hz] at h1 h2 ⊢
  omega
/-- No more go ahead than there are. -/
theorem ahead_cap (p : List UInt8) : ∀ (ts : List Tok) (i : Nat), tpath p i ts → Tok.costs ts = toC p i → min (aheadAll p i ts) 1000000000 ≤ capW p i
  | [], i, _, _ => by simp [aheadAll]
  | t :: ts, i, h, hc => by
    obtain ⟨h1, h2, h3, h4, h5, h6⟩ := best_tail p t ts i h hc
    have ih := ahead_cap p ts _ h3 h6
    have hm := sum_more (aw p i t) (fun x => if x.cost + toC p (i + x.len.toNat) = toC p i then capW p (i + x.len.toNat) else 0) t (outToks p i) h2 (fun x _ => by
      unfold aw
      split
      · rename_i hh; rw [if_pos hh.2]; exact Nat.le_refl _
      · omega)
    have hm2 := sum_more (fun x => if x.cost + toC p (i + x.len.toNat) = toC p i then capW p (i + x.len.toNat) else 0) (fun x => if x.cost + toC p (i + x.len.toNat) = toC p i then waysN p (i + x.len.toNat) else 0) t (outToks p i) h2 (fun x _ => by
      split
      · rw [capW_is]; omega
      · omega)
    rw [← ways_step p i h1] at hm2
    have ha : aw p i t t = 0 := by unfold aw; rw [before_self]; simp
    simp only [h5, if_true, ha] at hm hm2
    have e1 := capW_is p i
    have e2 := capW_is p (i + t.len.toNat)
    have e3 : aheadN p i t = ((outToks p i).map (aw p i t)).sum := rfl
    simp only [aheadAll]
    omega
/-- All that goes ahead of a token, and what goes by it, goes ahead of a later one. -/
theorem ahead_more (p : List UInt8) (i : Nat) (x y : Tok) (hx : x ∈ outToks p i) (hb : x.cost + toC p (i + x.len.toNat) = toC p i) (h : beforeB x y = true) : aheadN p i x + capW p (i + x.len.toNat) ≤ aheadN p i y := by
  have hm := sum_more (aw p i x) (aw p i y) x (outToks p i) hx (fun z _ => by
    unfold aw
    split
    · rename_i hh; rw [if_pos ⟨before_trans z x y hh.1 h, hh.2⟩]; exact Nat.le_refl _
    · omega)
  have ha : aw p i x x = 0 := by unfold aw; rw [before_self]; simp
  have hb2 : aw p i y x = capW p (i + x.len.toNat) := by unfold aw; rw [if_pos ⟨h, hb⟩]
  rw [ha, hb2] at hm
  exact hm
/-- The order of lists, as presskeep asks it. -/
def beforeL : List Tok → List Tok → Bool
  | x :: a, y :: b => if x.len = y.len ∧ x.dist = y.dist then beforeL a b else if x.dist = 0 ∨ y.dist = 0 then decide (x.dist = 0) else decide (x.len < y.len) || (decide (x.len = y.len) && decide (x.dist < y.dist))
  | _, _ => false
theorem out_same (p : List UInt8) (i : Nat) (x y : Tok) (hx : x ∈ outToks p i) (hy : y ∈ outToks p i) (hl : x.len = y.len) (hd : x.dist = y.dist) : x = y := by
  rcases (mem_outToks p i x).1 hx with rfl | ⟨d, l, h1, h2, h3, h4, h5, rfl⟩ <;> rcases (mem_outToks p i y).1 hy with rfl | ⟨d', l', h1', h2', h3', h4', h5', rfl⟩
  · rfl
  · simp [literal] at hd; omega
  · simp [literal] at hd; omega
  · simp only at hl hd
    rw [hl, hd]
theorem out_lit (p : List UInt8) (i : Nat) (x : Tok) (hx : x ∈ outToks p i) (h : x.dist = 0) : x.len = 1 := by
  rcases (mem_outToks p i x).1 hx with rfl | ⟨d, l, h1, h2, h3, h4, h5, rfl⟩
  · rfl
  · simp at h; omega
theorem order_main (p : List UInt8) : ∀ (a b : List Tok) (i acc : Nat), tpath p i a → tpath p i b → Tok.costs a = toC p i → Tok.costs b = toC p i → beforeL a b = false → min (acc + aheadAll p i b) 1000000000 ≤ min (acc + aheadAll p i a) 1000000000
  | [], [], i, acc, _, _, _, _, _ => Nat.le_refl _
  | [], y :: b, i, acc, ha, hb, _, _, _ => by have h1 : i = p.length := ha; have h2 := hb.1; omega
  | x :: a, [], i, acc, ha, hb, _, _, _ => by have h1 : i = p.length := hb; have h2 := ha.1; omega
  | x :: a, y :: b, i, acc, ha, hb, hca, hcb, h => by
    obtain ⟨a1, a2, a3, a4, a5, a6⟩ := best_tail p x a i ha hca
    obtain ⟨b1, b2, b3, b4, b5, b6⟩ := best_tail p y b i hb hcb
    simp only [beforeL] at h
    by_cases hs : x.len = y.len ∧ x.dist = y.dist
    · rw [if_pos hs] at h
      have e := out_same p i x y a2 b2 hs.1 hs.2
      subst e
      have ih := order_main p a b _ (acc + aheadN p i x) a3 b3 a6 b6 h
      simp only [aheadAll]
      omega
    · rw [if_neg hs] at h
      have hbf : beforeB y x = true := by
        unfold beforeB
        by_cases h0 : x.dist = 0
        · rw [if_pos (.inl h0)] at h
          simp [h0] at h
        · by_cases h1 : y.dist = 0
          · rw [if_pos (.inl h1)]
            simp [h0, h1]
          · rw [if_neg (by omega)] at h
            rw [if_neg (by omega)]
            simp at h ⊢
            omega
      have hc := ahead_cap p b _ b3 b6
      have hm := ahead_more p i y x b2 b5 hbf
      simp only [aheadAll]
      omega
theorem best_path (p : List UInt8) (hp : p.length ≤ 64) (ts : List Tok) (h : bestB p ts = true) : tpath p 0 ts ∧ Tok.costs ts = toC p 0 := by
  obtain ⟨h1, h2⟩ := (bestB_iff p ts).1 h
  exact ⟨(expand_tpath p hp ts 0 (by omega)).1 (by simpa using h1), h2⟩
/-- Of two best lists the one with more ahead stands later. -/
theorem order_is (p : List UInt8) (hp : p.length ≤ 64) (a b : List Tok) (ha : bestB p a = true) (hb : bestB p b = true) (h : rankN p a < rankN p b) : beforeL a b = true := by
  obtain ⟨a1, a2⟩ := best_path p hp a ha
  obtain ⟨b1, b2⟩ := best_path p hp b hb
  rcases hc : beforeL a b with _ | _
  · have := order_main p a b 0 0 a1 b1 a2 b2 hc
    unfold rankN at h
    rw [rankGo_is p a 0 0 (by omega), rankGo_is p b 0 0 (by omega)] at h
    omega
  · rfl
end Go.Proofs.Ytnpnaglgllcpfab
