/-
  Lemmas for the law All: Ord0, Bpl, Be.
-/
import Derived.Test.YtnpnaglgllcpfaaGreatM16
/- The order of the best lists, plainly: of two of them, the one with the greater number of others ahead stands later. -/
namespace Go.Proofs.YtnpnaglgllcpfaaGreat
set_option maxRecDepth 100000
open Dp

/-- How many have just this cost. -/
def val (c : Nat) : S → Nat
  | some (a, u) => if a = c then u else 0
  | none => 0
def notBelow (c : Nat) (x : S) : Prop := ∀ a u, x = some (a, u) → c ≤ a
theorem val_add (c : Nat) (x y : S) (hx : notBelow c x) (hy : notBelow c y) : val c (add x y) = val c x + val c y ∧ notBelow c (add x y) := by
  rcases x with _ | ⟨a, u⟩
  · rw [none_add]; exact ⟨by simp [val], hy⟩
  rcases y with _ | ⟨b, v⟩
  · rw [add_none]; exact ⟨by simp [val], hx⟩
  have h1 := hx a u rfl
  have h2 := hy b v rfl
  rw [add_some]
  split
  · refine ⟨?_, fun a' u' h => by simp at h; omega⟩
    simp only [val]
    rw [if_neg (show ¬ b = c by omega)]; rfl
  · split
    · refine ⟨?_, fun a' u' h => by simp at h; omega⟩
      simp only [val]
      rw [if_neg (show ¬ a = c by omega)]; omega
    · have : a = b := by omega
      subst this
      refine ⟨?_, fun a' u' h => by simp at h; omega⟩
      simp only [val]
      split <;> omega
theorem val_sum (c : Nat) : ∀ l : List S, (∀ x ∈ l, notBelow c x) → val c (sum l) = (l.map (val c)).sum ∧ notBelow c (sum l)
  | [], _ => ⟨rfl, fun a u h => by cases h⟩
  | x :: l, h => by
    obtain ⟨h1, h2⟩ := val_sum c l fun y hy => h y (List.mem_cons_of_mem _ hy)
    obtain ⟨h3, h4⟩ := val_add c x (sum l) (h x (List.mem_cons_self ..)) h2
    simp only [sum, List.map_cons, List.sum_cons]
    exact ⟨by rw [h3, h1], h4⟩

/-- From a place to the end: how many lists have the least cost. -/
def waysN (p : List UInt8) (j : Nat) : Nat := match (net p).to j with | some (_, u) => u | none => 0
theorem capW_is (p : List UInt8) (j : Nat) : capW p j = min (waysN p j) 1000000000 := by
  unfold capW waysN
  rcases (net p).to j with _ | ⟨a, u⟩ <;> simp
theorem to_is (p : List UInt8) (j : Nat) (h : j ≤ p.length) : (net p).to j = some (toC p j, waysN p j) := by
  obtain ⟨m, u, h1, _⟩ := to_some p j h
  unfold toC waysN
  rw [h1]
theorem out_sum (p : List UInt8) (j : Nat) (h : j < p.length) : (net p).to j = sum ((outToks p j).map fun t => sh t.cost ((net p).to (j + t.len.toNat))) := by
  have h1 := (net p).to_step j h
  rw [h1]
  show sum (((outToks p j).map fun t => (t.len.toNat, t.cost)).map _) = _
  rw [List.map_map]
  rfl
theorem toC_step (p : List UInt8) (j : Nat) (h : j < p.length) (x : Tok) (hx : x ∈ outToks p j) : toC p j ≤ x.cost + toC p (j + x.len.toNat) := by
  have hl := out_len p j h x hx
  have h1 : le (sh x.cost ((net p).to (j + x.len.toNat))) (x.cost + toC p (j + x.len.toNat)) := sh_le _ ⟨_, _, to_is p _ hl.2.1, Nat.le_refl _⟩
  have h2 := sum_le ((outToks p j).map fun t => sh t.cost ((net p).to (j + t.len.toNat))) (List.mem_map.2 ⟨x, hx, rfl⟩) h1
  rw [← out_sum p j h, to_is p j (by omega)] at h2
  obtain ⟨b, v, e, h3⟩ := h2
  simp at e
  omega
/-- The ways from a place: those by each token that keeps to the least cost. -/
theorem ways_step (p : List UInt8) (j : Nat) (h : j < p.length) : waysN p j = ((outToks p j).map fun x => if x.cost + toC p (j + x.len.toNat) = toC p j then waysN p (j + x.len.toNat) else 0).sum := by
  have h1 := (val_sum (toC p j) ((outToks p j).map fun t => sh t.cost ((net p).to (j + t.len.toNat))) (fun y hy => by
    obtain ⟨x, hx, rfl⟩ := List.mem_map.1 hy
    have hl := out_len p j h x hx
    intro a u e
    rw [to_is p _ hl.2.1] at e
    have := toC_step p j h x hx
    simp [sh] at e
    omega)).1
  rw [← out_sum p j h, to_is p j (by omega)] at h1
  simp only [val, if_true] at h1
  rw [h1, List.map_map]
  congr 1
  apply List.map_congr_left
  intro x hx
  have hl := out_len p j h x hx
  simp only [Function.comp]
  rw [to_is p _ hl.2.1]
  simp only [sh, val]
  rw [Nat.add_comm]

theorem toC_costs (p : List UInt8) (ts : List Tok) (i : Nat) (hi : i ≤ p.length) (h : tpath p i ts) : toC p i ≤ Tok.costs ts := by
  obtain ⟨h1, h2⟩ := tpath_path p ts i h
  obtain ⟨b, v, e, h3⟩ := (net p).path_le _ _ h1
  rw [to_is p i hi] at e
  simp at e
  omega
theorem best_tail (p : List UInt8) (t : Tok) (ts : List Tok) (i : Nat) (h : tpath p i (t :: ts)) (hc : Tok.costs (t :: ts) = toC p i) :
    i < p.length ∧ t ∈ outToks p i ∧ tpath p (i + t.len.toNat) ts ∧ i + t.len.toNat ≤ p.length ∧ t.cost + toC p (i + t.len.toNat) = toC p i ∧ Tok.costs ts = toC p (i + t.len.toNat) := by
  obtain ⟨h1, h2, h3⟩ := h
  have hl := out_len p i h1 t h2
  have h4 := toC_costs p ts _ hl.2.1 h3
  have h5 := toC_step p i h1 t h2
  have h6 : Tok.costs (t :: ts) = t.cost + Tok.costs ts := by simp [Tok.costs]
  exact ⟨h1, h2, h3, hl.2.1, by omega, by omega⟩

/-- How many go ahead, not cut. -/
def aheadAll (p : List UInt8) : Nat → List Tok → Nat
  | _, [] => 0
  | i, t :: ts => aheadN p i t + aheadAll p (i + t.len.toNat) ts
theorem rankGo_is (p : List UInt8) : ∀ (ts : List Tok) (i acc : Nat), acc ≤ 1000000000 → rankGo p i acc ts = min (acc + aheadAll p i ts) 1000000000
  | [], i, acc, h => by simp [rankGo, aheadAll]; omega
  | t :: ts, i, acc, h => by
    simp only [rankGo, aheadAll]
    rw [rankGo_is p ts _ _ (by omega)]
    omega
theorem sum_more {α : Type} (f h : α → Nat) (t : α) : ∀ l : List α, t ∈ l → (∀ x ∈ l, f x ≤ h x) → (l.map f).sum + h t ≤ (l.map h).sum + f t
  | [], ht, _ => by cases ht
  | x :: l, ht, hle => by
    have hx := hle x (List.mem_cons_self ..)
    have hall : (l.map f).sum ≤ (l.map h).sum := by
      have : ∀ l' : List α, (∀ y ∈ l', f y ≤ h y) → (l'.map f).sum ≤ (l'.map h).sum := fun l' => by
        induction l' with
        | nil => intro _; simp
        | cons y l' ih =>
          intro hh
          have h1 := hh y (List.mem_cons_self ..)
          have h2 := ih fun z hz => hh z (List.mem_cons_of_mem _ hz)
          simp only [List.map_cons, List.sum_cons]
          omega
      exact this l fun y hy => hle y (List.mem_cons_of_mem _ hy)
    simp only [List.map_cons, List.sum_cons]
    rcases List.mem_cons.1 ht with rfl | ht
    · omega
    · have := sum_more f h t l ht fun y hy => hle y (List.mem_cons_of_mem _ hy)
      omega
theorem before_self (t : Tok) : beforeB t t = false := by
  unfold beforeB
  split <;> simp <;> omega
theorem before_trans (x y z : Tok) (h1 : beforeB x y = true) (h2 : beforeB y z = true) : beforeB x z = true := by
  unfold beforeB at *
  by_cases hx : x.dist = 0 <;> by_cases hy : y.dist = 0 <;> by_cases hz : z.dist = 0 <;> simp [hx, hy, hz] at h1 h2 ⊢
  omega
/-- No more go ahead than there are. -/
theorem ahead_cap (p : List UInt8) : ∀ (ts : List Tok) (i : Nat), tpath p i ts → Tok.costs ts = toC p i → min (aheadAll p i ts) 1000000000 ≤ capW p i
  | [], i, _, _ => by simp [aheadAll]
  | t :: ts, i, h, hc => by
    obtain ⟨h1, h2, h3, h4, h5, h6⟩ := best_tail p t ts i h hc
    have ih := ahead_cap p ts _ h3 h6
    have hm := sum_more (aw p i t) (fun x => if x.cost + toC p (i + x.len.toNat) = toC p i then capW p (i + x.len.toNat) else 0) t (outToks p i) h2 (fun x _ => by
      unfold aw
      split
      · rename_i hh; rw [if_pos hh.2]; exact Nat.le_refl _
      · omega)
    have hm2 := sum_more (fun x => if x.cost + toC p (i + x.len.toNat) = toC p i then capW p (i + x.len.toNat) else 0) (fun x => if x.cost + toC p (i + x.len.toNat) = toC p i then waysN p (i + x.len.toNat) else 0) t (outToks p i) h2 (fun x _ => by
      split
      · rw [capW_is]; omega
      · omega)
    rw [← ways_step p i h1] at hm2
    have ha : aw p i t t = 0 := by unfold aw; rw [before_self]; simp
    simp only [h5, if_true, ha] at hm hm2
    have e1 := capW_is p i
    have e2 := capW_is p (i + t.len.toNat)
    have e3 : aheadN p i t = ((outToks p i).map (aw p i t)).sum := rfl
    simp only [aheadAll]
    omega
/-- All that goes ahead of a token, and what goes by it, goes ahead of a later one. -/
theorem ahead_more (p : List UInt8) (i : Nat) (x y : Tok) (hx : x ∈ outToks p i) (hb : x.cost + toC p (i + x.len.toNat) = toC p i) (h : beforeB x y = true) : aheadN p i x + capW p (i + x.len.toNat) ≤ aheadN p i y := by
  have hm := sum_more (aw p i x) (aw p i y) x (outToks p i) hx (fun z _ => by
    unfold aw
    split
    · rename_i hh; rw [if_pos ⟨before_trans z x y hh.1 h, hh.2⟩]; exact Nat.le_refl _
    · omega)
  have ha : aw p i x x = 0 := by unfold aw; rw [before_self]; simp
  have hb2 : aw p i y x = capW p (i + x.len.toNat) := by unfold aw; rw [if_pos ⟨h, hb⟩]
  rw [ha, hb2] at hm
  exact hm
/-- The order of lists, as presskeep asks it. -/
def beforeL : List Tok → List Tok → Bool
  | x :: a, y :: b => if x.len = y.len ∧ x.dist = y.dist then beforeL a b else if x.dist = 0 ∨ y.dist = 0 then decide (x.dist = 0) else decide (x.len < y.len) || (decide (x.len = y.len) && decide (x.dist < y.dist))
  | _, _ => false
theorem out_same (p : List UInt8) (i : Nat) (x y : Tok) (hx : x ∈ outToks p i) (hy : y ∈ outToks p i) (hl : x.len = y.len) (hd : x.dist = y.dist) : x = y := by
  rcases (mem_outToks p i x).1 hx with rfl | ⟨d, l, h1, h2, h3, h4, h5, rfl⟩ <;> rcases (mem_outToks p i y).1 hy with rfl | ⟨d', l', h1', h2', h3', h4', h5', rfl⟩
  · rfl
  · simp [literal] at hd; omega
  · simp [literal] at hd; omega
  · simp only at hl hd
    rw [hl, hd]
theorem out_lit (p : List UInt8) (i : Nat) (x : Tok) (hx : x ∈ outToks p i) (h : x.dist = 0) : x.len = 1 := by
  rcases (mem_outToks p i x).1 hx with rfl | ⟨d, l, h1, h2, h3, h4, h5, rfl⟩
  · rfl
  · simp at h; omega
theorem order_main (p : List UInt8) : ∀ (a b : List Tok) (i acc : Nat), tpath p i a → tpath p i b → Tok.costs a = toC p i → Tok.costs b = toC p i → beforeL a b = false → min (acc + aheadAll p i b) 1000000000 ≤ min (acc + aheadAll p i a) 1000000000
  | [], [], i, acc, _, _, _, _, _ => Nat.le_refl _
  | [], y :: b, i, acc, ha, hb, _, _, _ => by have h1 : i = p.length := ha; have h2 := hb.1; omega
  | x :: a, [], i, acc, ha, hb, _, _, _ => by have h1 : i = p.length := hb; have h2 := ha.1; omega
  | x :: a, y :: b, i, acc, ha, hb, hca, hcb, h => by
    obtain ⟨a1, a2, a3, a4, a5, a6⟩ := best_tail p x a i ha hca
    obtain ⟨b1, b2, b3, b4, b5, b6⟩ := best_tail p y b i hb hcb
    simp only [beforeL] at h
    by_cases hs : x.len = y.len ∧ x.dist = y.dist
    · rw [if_pos hs] at h
      have e := out_same p i x y a2 b2 hs.1 hs.2
      subst e
      have ih := order_main p a b _ (acc + aheadN p i x) a3 b3 a6 b6 h
      simp only [aheadAll]
      omega
    · rw [if_neg hs] at h
      have hbf : beforeB y x = true := by
        unfold beforeB
        by_cases h0 : x.dist = 0
        · rw [if_pos (.inl h0)] at h
          simp [h0] at h
        · by_cases h1 : y.dist = 0
          · rw [if_pos (.inl h1)]
            simp [h0, h1]
          · rw [if_neg (by omega)] at h
            rw [if_neg (by omega)]
            simp at h ⊢
            omega
      have hc := ahead_cap p b _ b3 b6
      have hm := ahead_more p i y x b2 b5 hbf
      simp only [aheadAll]
      omega
theorem best_path (p : List UInt8) (hp : p.length ≤ 64) (ts : List Tok) (h : bestB p ts = true) : tpath p 0 ts ∧ Tok.costs ts = toC p 0 := by
  obtain ⟨h1, h2⟩ := (bestB_iff p ts).1 h
  exact ⟨(expand_tpath p hp ts 0 (by omega)).1 (by simpa using h1), h2⟩
/-- Of two best lists the one with more ahead stands later. -/
theorem order_is (p : List UInt8) (hp : p.length ≤ 64) (a b : List Tok) (ha : bestB p a = true) (hb : bestB p b = true) (h : rankN p a < rankN p b) : beforeL a b = true := by
  obtain ⟨a1, a2⟩ := best_path p hp a ha
  obtain ⟨b1, b2⟩ := best_path p hp b hb
  rcases hc : beforeL a b with _ | _
  · have := order_main p a b 0 0 a1 b1 a2 b2 hc
    unfold rankN at h
    rw [rankGo_is p a 0 0 (by omega), rankGo_is p b 0 0 (by omega)] at h
    omega
  · rfl
end Go.Proofs.YtnpnaglgllcpfaaGreat

/- The tokens that may stand at a place, in the order of the numbers; what is known of a place out of those behind it; which list has a number: plainly. -/
namespace Go.Proofs.YtnpnaglgllcpfaaGreat
set_option maxRecDepth 100000

/-- The copies of one length from the distances 1 to D; of the lengths 2 to n + 1, and the literal; all. -/
def chIn (p : List UInt8) (i l D : Nat) : List Tok := ((List.range D).filter fun d => decide (l ≤ alk p i (d + 1))).map fun d => ⟨(l : Int), ((d + 1 : Nat) : Int), 0⟩
def chTo (p : List UInt8) (i n : Nat) : List Tok := literal p i :: (List.range n).flatMap fun l => chIn p i (l + 2) (min 32 i)
def chs (p : List UInt8) (i : Nat) : List Tok := chTo p i (p.length - i - 1)
theorem chIn_succ (p : List UInt8) (i l D : Nat) : chIn p i l (D + 1) = chIn p i l D ++ (if l ≤ alk p i (D + 1) then [⟨(l : Int), ((D + 1 : Nat) : Int), 0⟩] else []) := by
  unfold chIn
  rw [List.range_succ, List.filter_append, List.map_append]
  congr 1
  by_cases h : l ≤ alk p i (D + 1)
  · simp [h]
  · simp [h]
theorem chTo_succ (p : List UInt8) (i n : Nat) : chTo p i (n + 1) = chTo p i n ++ chIn p i (n + 2) (min 32 i) := by
  simp [chTo, List.range_succ]
theorem mem_chIn (p : List UInt8) (i l D : Nat) (t : Tok) : t ∈ chIn p i l D ↔ ∃ d, 1 ≤ d ∧ d ≤ D ∧ l ≤ alk p i d ∧ t = ⟨(l : Int), (d : Int), 0⟩ := by
  unfold chIn
  simp only [List.mem_map, List.mem_filter, List.mem_range, decide_eq_true_eq]
  constructor
  · rintro ⟨d, ⟨h1, h2⟩, rfl⟩
    exact ⟨d + 1, by omega, by omega, h2, rfl⟩
  · rintro ⟨d, h1, h2, h3, rfl⟩
    obtain ⟨d, rfl⟩ : ∃ d', d = d' + 1 := ⟨d - 1, by omega⟩
    exact ⟨d, ⟨by omega, h3⟩, rfl⟩
theorem mem_chs (p : List UInt8) (i : Nat) (hi : i < p.length) (t : Tok) : t ∈ chs p i ↔ t ∈ outToks p i := by
  rw [mem_outToks]
  unfold chs chTo
  simp only [List.mem_cons, List.mem_flatMap, List.mem_range, mem_chIn]
  constructor
  · rintro (h | ⟨l, h1, d, h2, h3, h4, rfl⟩)
    · exact .inl h
    · exact .inr ⟨d, l + 2, h2, by omega, by omega, by omega, h4, rfl⟩
  · rintro (h | ⟨d, l, h1, h2, h3, h4, h5, rfl⟩)
    · exact .inl h
    · have := (alk_most p i d (by omega)).1.1
      obtain ⟨l, rfl⟩ : ∃ l', l = l' + 2 := ⟨l - 2, by omega⟩
      exact .inr ⟨l, by omega, d, h1, by omega, h5, rfl⟩
theorem sum_zero {α : Type} : ∀ l : List α, (l.map fun _ => 0).sum = 0
  | [] => rfl
  | _ :: l => by simp [sum_zero l]
theorem sum_add {α : Type} (f g : α → Nat) : ∀ l : List α, (l.map fun x => f x + g x).sum = (l.map f).sum + (l.map g).sum
  | [] => rfl
  | x :: l => by
    have := sum_add f g l
    simp only [List.map_cons, List.sum_cons]
    omega
theorem sum_swap {α β : Type} (f : α → β → Nat) (b : List β) : ∀ a : List α, (a.map fun x => (b.map fun y => f x y).sum).sum = (b.map fun y => (a.map fun x => f x y).sum).sum
  | [] => by simp [sum_zero]
  | x :: a => by
    simp only [List.map_cons, List.sum_cons]
    rw [sum_swap f b a, sum_add]
theorem sum_low (h : Nat → Nat) (a : Nat) : ∀ n, ((List.range n).map fun l => if l + 2 ≤ a then h l else 0).sum = ((List.range (min n (a - 1))).map h).sum
  | 0 => by simp
  | n + 1 => by
    rw [List.range_succ, List.map_append, List.sum_append, sum_low h a n]
    by_cases hn : n + 2 ≤ a
    · rw [show min (n + 1) (a - 1) = min n (a - 1) + 1 by omega, List.range_succ, List.map_append, List.sum_append]
      rw [show min n (a - 1) = n by omega]
      simp [hn]
    · rw [show min (n + 1) (a - 1) = min n (a - 1) by omega]
      simp [hn]
theorem chIn_sum (g : Tok → Nat) (p : List UInt8) (i l : Nat) : ∀ D, ((chIn p i l D).map g).sum = ((List.range D).map fun d => if l ≤ alk p i (d + 1) then g ⟨(l : Int), ((d + 1 : Nat) : Int), 0⟩ else 0).sum
  | 0 => by simp [chIn]
  | D + 1 => by
    rw [chIn_succ, List.map_append, List.sum_append, chIn_sum g p i l D, List.range_succ, List.map_append, List.sum_append]
    congr 1
    by_cases h : l ≤ alk p i (D + 1)
    · simp [h]
    · simp [h]
/-- In whichever order: the sums over the tokens of a place are the same. -/
theorem chs_sum (g : Tok → Nat) (p : List UInt8) (i : Nat) (hi : i < p.length) : ((chs p i).map g).sum = ((outToks p i).map g).sum := by
  unfold chs chTo outToks
  rw [List.map_cons, List.sum_cons, List.map_cons, List.sum_cons, flatMap_sum, flatMap_sum]
  congr 1
  simp only [chIn_sum]
  rw [sum_swap (fun (l d : Nat) => if l + 2 ≤ alk p i (d + 1) then g ⟨((l + 2 : Nat) : Int), ((d + 1 : Nat) : Int), 0⟩ else 0)]
  congr 1
  apply List.map_congr_left
  intro d hd
  have ha := (alk_most p i (d + 1) (by omega)).1.1
  rw [sum_low (fun l => g ⟨((l + 2 : Nat) : Int), ((d + 1 : Nat) : Int), 0⟩)]
  rw [show min (p.length - i - 1) (alk p i (d + 1) - 1) = alk p i (d + 1) - 1 by omega]
  unfold copies
  rw [List.map_map]
  rfl
theorem chs_sorted (p : List UInt8) (i : Nat) : (chs p i).Pairwise fun a b => beforeB a b = true := by
  unfold chs chTo
  rw [List.pairwise_cons]
  constructor
  · intro t ht
    obtain ⟨l, _, h⟩ := List.mem_flatMap.1 ht
    obtain ⟨d, h1, _, _, rfl⟩ := (mem_chIn p i (l + 2) _ t).1 h
    unfold beforeB literal
    simp
    omega
  · rw [List.pairwise_flatMap]
    constructor
    · intro l _
      unfold chIn
      rw [List.pairwise_map]
      refine List.Pairwise.imp ?_ (List.Pairwise.filter _ List.pairwise_lt_range)
      intro a b hab
      unfold beforeB
      rw [if_neg (by show ¬ (((a + 1 : Nat) : Int) = 0 ∨ ((b + 1 : Nat) : Int) = 0); omega)]
      simp
      omega
    · refine List.Pairwise.imp ?_ List.pairwise_lt_range
      intro a b hab x hx y hy
      obtain ⟨d, h1, _, _, rfl⟩ := (mem_chIn p i (a + 2) _ x).1 hx
      obtain ⟨e, h2, _, _, rfl⟩ := (mem_chIn p i (b + 2) _ y).1 hy
      unfold beforeB
      rw [if_neg (by show ¬ ((d : Int) = 0 ∨ (e : Int) = 0); omega)]
      simp
      omega

/-- What a list costs that begins with this token and goes on at the least. -/
def kst (p : List UInt8) (i : Nat) (t : Tok) : Nat := t.cost + toC p (i + t.len.toNat)
/-- What the best lists from a place on begin with, in their order. -/
def firsts (p : List UInt8) (i : Nat) : List Tok := (chs p i).filter fun t => decide (kst p i t = toC p i)
/-- What is known of a place when these tokens have been gone through. -/
def RSt (p : List UInt8) (i : Nat) (l : List Tok) (c w : Nat) (f : List Tok) : Prop :=
  (l = [] ∧ c = 0 ∧ w = 0 ∧ f = []) ∨ (f ≠ [] ∧ (∀ t ∈ l, c ≤ kst p i t) ∧ f = l.filter (fun t => decide (kst p i t = c)) ∧ w = min ((f.map fun t => waysN p (i + t.len.toNat)).sum) 1000000000)
theorem RSt.new {p : List UInt8} {i c w : Nat} {l f : List Tok} {t : Tok} (h : RSt p i l c w f) (hn : f = [] ∨ kst p i t < c) : RSt p i (l ++ [t]) (kst p i t) (capW p (i + t.len.toNat)) [t] := by
  have hlt : ∀ x ∈ l, kst p i t < kst p i x := by
    rcases h with ⟨rfl, _⟩ | ⟨h1, h2, _⟩
    · intro x hx; cases hx
    · intro x hx
      have := h2 x hx
      rcases hn with h' | h'
      · exact absurd h' h1
      · omega
  refine .inr ⟨by simp, ?_, ?_, ?_⟩
  · intro x hx
    rcases List.mem_append.1 hx with h' | h'
    · have := hlt x h'; omega
    · rw [List.mem_singleton.1 h']; exact Nat.le_refl _
  · rw [List.filter_append]
    have : l.filter (fun x => decide (kst p i x = kst p i t)) = [] := by
      rw [List.filter_eq_nil_iff]
      intro x hx
      have := hlt x hx
      simp; omega
    rw [this]
    simp
  · rw [capW_is]; simp
theorem RSt.more {p : List UInt8} {i c w : Nat} {l f : List Tok} {t : Tok} (h : RSt p i l c w f) (hn : f ≠ []) (hk : kst p i t = c) : RSt p i (l ++ [t]) c (min (w + capW p (i + t.len.toNat)) 1000000000) (f ++ [t]) := by
  rcases h with ⟨_, _, _, h4⟩ | ⟨h1, h2, h3, h4⟩
  · exact absurd h4 hn
  refine .inr ⟨by simp, ?_, ?_, ?_⟩
  · intro x hx
    rcases List.mem_append.1 hx with h' | h'
    · exact h2 x h'
    · rw [List.mem_singleton.1 h']; omega
  · rw [List.filter_append, ← h3]
    simp [hk]
  · rw [h4, capW_is, List.map_append, List.sum_append]
    simp
    omega
theorem RSt.skip {p : List UInt8} {i c w : Nat} {l f : List Tok} {t : Tok} (h : RSt p i l c w f) (hn : f ≠ []) (hk : c < kst p i t) : RSt p i (l ++ [t]) c w f := by
  rcases h with ⟨_, _, _, h4⟩ | ⟨h1, h2, h3, h4⟩
  · exact absurd h4 hn
  refine .inr ⟨h1, ?_, ?_, h4⟩
  · intro x hx
    rcases List.mem_append.1 hx with h' | h'
    · exact h2 x h'
    · rw [List.mem_singleton.1 h']; omega
  · rw [List.filter_append, ← h3]
    simp
    omega
theorem RSt.bound {p : List UInt8} {i c w : Nat} {l f : List Tok} (h : RSt p i l c w f) (hl : ∀ t ∈ l, kst p i t ≤ 1000) : c ≤ 1000 ∧ w ≤ 1000000000 ∧ f.length ≤ l.length := by
  rcases h with ⟨rfl, rfl, rfl, rfl⟩ | ⟨h1, h2, h3, h4⟩
  · simp
  · refine ⟨?_, by omega, by rw [h3]; exact List.length_filter_le _ _⟩
    rcases f with _ | ⟨t, f⟩
    · exact absurd rfl h1
    · have : t ∈ l.filter (fun t => decide (kst p i t = c)) := by rw [← h3]; exact List.mem_cons_self ..
      have h5 := hl t (List.mem_filter.1 this).1
      have h6 := (List.mem_filter.1 this).2
      simp at h6
      omega
theorem waysN_pos (p : List UInt8) (j : Nat) (h : j ≤ p.length) : 1 ≤ waysN p j := by
  obtain ⟨m, u, h1, _, h2⟩ := to_some p j h
  unfold waysN
  rw [h1]; exact h2
theorem some_of_sum {α : Type} (g : α → Nat) : ∀ l : List α, 1 ≤ (l.map g).sum → ∃ x ∈ l, 1 ≤ g x
  | [], h => by simp at h
  | x :: l, h => by
    simp only [List.map_cons, List.sum_cons] at h
    by_cases hx : 1 ≤ g x
    · exact ⟨x, List.mem_cons_self .., hx⟩
    · obtain ⟨y, h1, h2⟩ := some_of_sum g l (by omega)
      exact ⟨y, List.mem_cons_of_mem _ h1, h2⟩
theorem kst_le (p : List UInt8) (i : Nat) (hi : i < p.length) (t : Tok) (ht : t ∈ chs p i) : toC p i ≤ kst p i t := toC_step p i hi t ((mem_chs p i hi t).1 ht)
theorem kst_some (p : List UInt8) (i : Nat) (hi : i < p.length) : ∃ t ∈ chs p i, kst p i t = toC p i := by
  have h1 := waysN_pos p i (by omega)
  rw [ways_step p i hi] at h1
  obtain ⟨t, h2, h3⟩ := some_of_sum _ _ h1
  refine ⟨t, (mem_chs p i hi t).2 h2, ?_⟩
  by_cases h : t.cost + toC p (i + t.len.toNat) = toC p i
  · exact h
  · rw [if_neg h] at h3; omega
theorem sum_filter {α : Type} (c : α → Bool) (g : α → Nat) : ∀ l : List α, ((l.filter c).map g).sum = (l.map fun x => if c x = true then g x else 0).sum
  | [] => rfl
  | x :: l => by
    have := sum_filter c g l
    by_cases h : c x = true
    · simp [h, this]
    · simp [h, this]
theorem firsts_ways (p : List UInt8) (i : Nat) (hi : i < p.length) : ((firsts p i).map fun t => waysN p (i + t.len.toNat)).sum = waysN p i := by
  unfold firsts
  rw [sum_filter, chs_sum _ p i hi, ways_step p i hi]
  congr 1
  apply List.map_congr_left
  intro x _
  simp only [decide_eq_true_eq]
  rfl
theorem RSt.all {p : List UInt8} {i c w : Nat} {f : List Tok} (h : RSt p i (chs p i) c w f) (hi : i < p.length) : c = toC p i ∧ w = capW p i ∧ f = firsts p i := by
  rcases h with ⟨h1, _⟩ | ⟨h1, h2, h3, h4⟩
  · simp [chs, chTo] at h1
  have hc : c = toC p i := by
    obtain ⟨t, ht, hk⟩ := kst_some p i hi
    have := h2 t ht
    rcases f with _ | ⟨x, f⟩
    · exact absurd rfl h1
    · have h5 : x ∈ (chs p i).filter (fun t => decide (kst p i t = c)) := by rw [← h3]; exact List.mem_cons_self ..
      have h6 := kst_le p i hi x (List.mem_filter.1 h5).1
      have h7 := (List.mem_filter.1 h5).2
      simp at h7
      omega
  subst hc
  have hf : f = firsts p i := h3
  refine ⟨rfl, ?_, hf⟩
  rw [h4, hf, firsts_ways p i hi, capW_is]

/-- The token by which the k-th goes, and how many go ahead of it: the program's own way. -/
def pickL (u : Tok → Nat) (k : Nat) : Nat → Tok → Nat → List Tok → Tok × Nat
  | _, pk, ah, [] => (pk, ah)
  | n, pk, ah, t :: ts => if k < n then (pk, ah) else pickL u k (n + u t) t n ts
theorem pickL_stop (u : Tok → Nat) (k n : Nat) (pk : Tok) (ah : Nat) (l : List Tok) (h : k < n) : pickL u k n pk ah l = (pk, ah) := by
  cases l with
  | nil => rfl
  | cons t ts => simp [pickL, h]
theorem pickL_is (u : Tok → Nat) (k : Nat) : ∀ (ts : List Tok) (n : Nat) (pk : Tok) (ah : Nat) (t : Tok), n ≤ k → k < n + ((t :: ts).map u).sum →
    ∃ A x B, t :: ts = A ++ x :: B ∧ pickL u k n pk ah (t :: ts) = (x, n + (A.map u).sum) ∧ n + (A.map u).sum ≤ k ∧ k < n + (A.map u).sum + u x
  | ts, n, pk, ah, t, h1, h2 => by
    have hp : pickL u k n pk ah (t :: ts) = pickL u k (n + u t) t n ts := by
      show (if k < n then _ else _) = _
      rw [if_neg (by omega)]
    rw [hp]
    by_cases hk : k < n + u t
    · exact ⟨[], t, ts, rfl, by rw [pickL_stop _ _ _ _ _ _ hk]; simp, by simp; omega, by simp; omega⟩
    · rcases ts with _ | ⟨t2, ts⟩
      · simp at h2; omega
      · obtain ⟨A, x, B, e, e2, h3, h4⟩ := pickL_is u k ts (n + u t) t n t2 (by omega) (by simp only [List.map_cons, List.sum_cons] at h2 ⊢; omega)
        refine ⟨t :: A, x, B, by rw [e]; rfl, ?_, ?_, ?_⟩
        · rw [e2]; simp; omega
        · simp; omega
        · simp; omega
def tokZ : Tok := ⟨0, 0, 0⟩
def pickAt (p : List UInt8) (i k : Nat) : Tok × Nat := pickL (fun t => capW p (i + t.len.toNat)) k 0 tokZ 0 (firsts p i)
theorem cut_sum {α : Type} (g : α → Nat) (m : Nat) : ∀ l : List α, min ((l.map g).sum) m ≤ (l.map fun x => min (g x) m).sum
  | [] => by simp
  | x :: l => by
    have := cut_sum g m l
    simp only [List.map_cons, List.sum_cons]
    omega
/-- The token by which the k-th list goes is one of the best lists' first; just those of the tokens ahead are ahead. -/
theorem pickAt_is (p : List UInt8) (i k : Nat) (hi : i < p.length) (hk : k < capW p i) : ∃ A x B, firsts p i = A ++ x :: B ∧ pickAt p i k = (x, (A.map fun t => capW p (i + t.len.toNat)).sum) ∧ (A.map fun t => capW p (i + t.len.toNat)).sum ≤ k ∧ k < (A.map fun t => capW p (i + t.len.toNat)).sum + capW p (i + x.len.toNat) := by
  have hs : k < ((firsts p i).map fun t => capW p (i + t.len.toNat)).sum := by
    have h1 := cut_sum (fun t : Tok => waysN p (i + t.len.toNat)) 1000000000 (firsts p i)
    rw [firsts_ways p i hi, ← capW_is] at h1
    have e : (fun t : Tok => capW p (i + t.len.toNat)) = fun t : Tok => min (waysN p (i + t.len.toNat)) 1000000000 := by
      funext t; exact capW_is p _
    rw [e]
    omega
  unfold pickAt
  rcases hf : firsts p i with _ | ⟨t, ts⟩
  · rw [hf] at hs; simp at hs
  · rw [hf] at hs
    obtain ⟨A, x, B, e, e2, h3, h4⟩ := pickL_is (fun t => capW p (i + t.len.toNat)) k ts 0 tokZ 0 t (by omega) (by omega)
    exact ⟨A, x, B, e, by rw [e2]; simp, by omega, by omega⟩
theorem mem_firsts (p : List UInt8) (i : Nat) (hi : i < p.length) (t : Tok) (h : t ∈ firsts p i) : t ∈ outToks p i ∧ t.cost + toC p (i + t.len.toNat) = toC p i ∧ 1 ≤ t.len ∧ i + t.len.toNat ≤ p.length := by
  have h1 := List.mem_filter.1 h
  have h2 := (mem_chs p i hi t).1 h1.1
  have h3 := out_len p i hi t h2
  have h4 := h1.2
  simp at h4
  exact ⟨h2, h4, h3.1, h3.2.1⟩
theorem before_asym (x y : Tok) (h : beforeB x y = true) : beforeB y x = false := by
  rcases hb : beforeB y x with _ | _
  · rfl
  · have := before_trans x y x h hb
    rw [before_self] at this
    cases this
theorem aheadN_first (p : List UInt8) (i : Nat) (hi : i < p.length) (A B : List Tok) (x : Tok) (h : firsts p i = A ++ x :: B) : aheadN p i x = (A.map fun t => capW p (i + t.len.toNat)).sum := by
  unfold aheadN
  rw [← chs_sum _ p i hi]
  have e : ((chs p i).map (aw p i x)).sum = ((firsts p i).map fun t => if beforeB t x = true then capW p (i + t.len.toNat) else 0).sum := by
    unfold firsts
    rw [sum_filter]
    congr 1
    apply List.map_congr_left
    intro t _
    unfold aw kst
    by_cases h1 : beforeB t x = true <;> by_cases h2 : t.cost + toC p (i + t.len.toNat) = toC p i <;> simp [h1, h2]
  have hs : (firsts p i).Pairwise fun a b => beforeB a b = true := List.Pairwise.filter _ (chs_sorted p i)
  rw [e]
  rw [h] at hs ⊢
  rw [List.pairwise_append] at hs
  obtain ⟨_, h2, h3⟩ := hs
  rw [List.pairwise_cons] at h2
  rw [List.map_append, List.sum_append, List.map_cons, List.sum_cons]
  have e1 : A.map (fun t => if beforeB t x = true then capW p (i + t.len.toNat) else 0) = A.map fun t => capW p (i + t.len.toNat) := by
    apply List.map_congr_left
    intro t ht
    rw [if_pos (h3 t ht x (List.mem_cons_self ..))]
  have e2 : B.map (fun t => if beforeB t x = true then capW p (i + t.len.toNat) else 0) = B.map fun _ => 0 := by
    apply List.map_congr_left
    intro t ht
    rw [before_asym _ _ (h2.1 t ht)]
    rfl
  rw [e1, e2, sum_zero, before_self]
  simp
/-- The k-th of the best lists from a place on. -/
def nthGo (p : List UInt8) : Nat → Nat → Nat → List Tok
  | 0, _, _ => []
  | f + 1, i, k => if i < p.length then (pickAt p i k).1 :: nthGo p f (i + (pickAt p i k).1.len.toNat) (k - (pickAt p i k).2) else []
def nthOf (p : List UInt8) (k : Int) : List Tok := nthGo p p.length 0 k.toNat
theorem nthGo_is (p : List UInt8) : ∀ (f i k : Nat), i ≤ p.length → p.length - i ≤ f → k < capW p i → tpath p i (nthGo p f i k) ∧ Tok.costs (nthGo p f i k) = toC p i ∧ aheadAll p i (nthGo p f i k) = k
  | 0, i, k, h1, h2, h3 => by
    have hi : i = p.length := by omega
    subst hi
    have h4 : (net p).to p.length = Dp.one := (net p).to_end
    have h5 : toC p p.length = 0 := by unfold toC; rw [h4]; rfl
    have h6 : capW p p.length = 1 := by unfold capW; rw [h4]; rfl
    refine ⟨?_, ?_, ?_⟩
    · simp [nthGo, tpath]
    · simp [nthGo, Tok.costs, h5]
    · simp [nthGo, aheadAll]; omega
  | f + 1, i, k, h1, h2, h3 => by
    by_cases hi : i < p.length
    · obtain ⟨A, x, B, e, e2, h4, h5⟩ := pickAt_is p i k hi h3
      obtain ⟨m1, m2, m3, m4⟩ := mem_firsts p i hi x (by rw [e]; simp)
      simp only [nthGo, if_pos hi, e2]
      obtain ⟨g1, g2, g3⟩ := nthGo_is p f (i + x.len.toNat) (k - (A.map fun t => capW p (i + t.len.toNat)).sum) m4 (by omega) (by omega)
      refine ⟨⟨hi, m1, g1⟩, ?_, ?_⟩
      · have : ∀ r, Tok.costs (x :: r) = x.cost + Tok.costs r := fun r => by simp [Tok.costs]
        rw [this, g2, m2]
      · simp only [aheadAll]
        rw [g3, aheadN_first p i hi A B x e]
        omega
    · have hi : i = p.length := by omega
      subst hi
      have := nthGo_is p 0 p.length k (Nat.le_refl _) (by omega) h3
      simpa [nthGo] using this
theorem leastC_is (p : List UInt8) : leastC p = toC p 0 := rfl
theorem leastW_is (p : List UInt8) : cap9 (leastW p) = (capW p 0 : Int) := by
  unfold leastW capW cap9
  obtain ⟨m, u, h, _⟩ := to_some p 0 (by omega)
  rw [h]
  simp only
  omega
/-- The list that Nth tells has its number. -/
theorem nthOf_is (p : List UInt8) (k : Int) (hp : p.length ≤ 64) (h0 : 0 ≤ k) (hk : k < (capW p 0 : Int)) : bestB p (nthOf p k) = true ∧ (rankN p (nthOf p k) : Int) = k := by
  obtain ⟨h1, h2, h3⟩ := nthGo_is p p.length 0 k.toNat (by omega) (by omega) (by omega)
  have hle := capW_le p 0
  refine ⟨?_, ?_⟩
  · rw [bestB_iff]
    refine ⟨?_, by unfold nthOf; rw [h2]; rfl⟩
    have := (expand_tpath p hp (nthOf p k) 0 (by omega)).2 h1
    simpa using this
  · unfold rankN nthOf
    rw [rankGo_is p _ 0 0 (by omega), h3]
    omega
/-- The list that Parse tells: the first of all. -/
def parseOf (p : List UInt8) : List Tok := nthOf p 0
theorem capW_pos (p : List UInt8) (j : Nat) (h : j ≤ p.length) : 1 ≤ capW p j := by
  have := waysN_pos p j h
  rw [capW_is]; omega
theorem parse_chosen : Chosen parseOf := fun p hp => (nthOf_is p 0 hp (by omega) (by have := capW_pos p 0 (by omega); omega)).1
end Go.Proofs.YtnpnaglgllcpfaaGreat

/- How far a copy goes: best.same; counts added: best.added. -/
namespace Go.Proofs.YtnpnaglgllcpfaaGreat
set_option maxRecDepth 100000
open Go.RowKit

set_option maxHeartbeats 1000000 in
theorem bsame_calls (a : Option Addr) (p : List UInt8) (cap i d : Nat) (w : World) (hp : p.length ≤ 64) (hb : BytesAt w a p) (hi : i ≤ p.length) (hd : d ≤ i) (hd1 : 1 ≤ d) :
    Calls Tryz.prog 131 #[.slice a p.length cap, .int .i64 i, .int .i64 d] w fun e w' => (∃ n : Nat, e = .returned (.int .i64 n) ∧ AlikeMost p i d n) ∧ ∃ n, w' = w.drewN n := by
  have HB : Hid (BytesAt w a p) := hb
  clear hb
  go_enter Tryz.func131, Tryz.ntmps131
  go_wp2
  go_loopw [7] (fun v wr => ∃ (n : Nat), v = .int .i64 n ∧ i + n ≤ p.length ∧ Hid (Alike p i d n) ∧ ∃ nd, wr = w.drewN nd) (fun v _ => p.length - (intOf v).toNat)
  case atStart => exact ⟨0, rfl, by omega, ⟨by omega, fun m hm => by omega⟩, 0, rfl⟩
  case round =>
    obtain ⟨n, rfl, hn, hal, nd, rfl⟩ := hrel
    by_cases hlt : i + n < p.length
    · obtain ⟨b, off, ha, hcell⟩ : ∃ b off, a = some ⟨b, off, none⟩ ∧ ∀ j, j < p.length → w.cell? ⟨b, off + j, none⟩ = some (.int .u8 (p.getD j 0).toNat) := by
        rcases HB.out with h | h
        · rw [h] at hlt; simp at hlt
        · exact h
      subst ha
      have c0 : (w.drewN nd).cell? ⟨b, off + (i + n), none⟩ = some (.int .u8 (p.getD (i + n) 0).toNat) := hcell (i + n) hlt
      have c1 : (w.drewN nd).cell? ⟨b, off + (i + n - d), none⟩ = some (.int .u8 (p.getD (i + n - d) 0).toNat) := hcell (i + n - d) (by omega)
      clear hcell
      have hix : 0 ≤ (i : Int) + (n : Int) ∧ (i : Int) + (n : Int) < (p.length : Int) := by omega
      have hix2 : 0 ≤ (i : Int) + (n : Int) - (d : Int) ∧ (i : Int) + (n : Int) - (d : Int) < (p.length : Int) := by omega
      have hlt' : (i : Int) + (n : Int) < (p.length : Int) := by omega
      generalize hw0 : w.drewN nd = w0 at *
      have HW0 : Hid (w.drewN nd = w0) := hw0
      clear hw0
      generalize hx : p.getD (i + n) 0 = x at *
      generalize hy : p.getD (i + n - d) 0 = y at *
      have HX : Hid (p.getD (i + n) 0 = x) := hx
      have HY : Hid (p.getD (i + n - d) 0 = y) := hy
      clear hx hy
      by_cases hxy : x = y
      · have hb : ((x.toNat : Int) == (y.toNat : Int)) = true := by simp [hxy]
        have HN : Hid (Alike p i d (n + 1)) := by
          refine ⟨by omega, fun m hm => ?_⟩
          rcases Nat.lt_or_ge m n with h | h
          · exact hal.out.2 m h
          · have : m = n := by omega
            subst this
            rw [HX.out, HY.out, hxy]
        clear hxy
        go_wp2_with fail
        go_quiet (fail)
        go_wp2
        go_roundw
        case rel => exact ⟨n + 1, by go_num, by omega, HN, _, by rw [← HW0.out, World.drewN_drewN]⟩
        case measure => simp [intOf]; omega
      · have hb : ((x.toNat : Int) == (y.toNat : Int)) = false := by
          simp only [beq_eq_false_iff_ne, ne_eq]
          intro h
          exact hxy (UInt8.toNat_inj.1 (by omega))
        have HN : Hid (AlikeMost p i d n) := ⟨hal.out, .inr (by rw [HX.out, HY.out]; exact hxy)⟩
        clear hxy
        go_wp2_with fail
        go_quiet (fail)
        go_wp2
        go_ret
        exact ⟨⟨n, rfl, HN.out⟩, _, by rw [← HW0.out, World.drewN_drewN]⟩
    · have hf : decide ((i : Int) + (n : Int) < (p.length : Int)) = false := by simp; omega
      have HN : Hid (AlikeMost p i d n) := ⟨hal.out, .inl (by omega)⟩
      go_wp2_with fail
      go_quiet (fail)
      go_wp2
      go_ret
      exact ⟨⟨n, rfl, HN.out⟩, _, World.drewN_drewN _ _ _⟩
theorem same_is (a : Option Addr) (p : List UInt8) (cap i d : Nat) (w : World) (hp : p.length ≤ 64) (hb : BytesAt w a p) (hi : i ≤ p.length) (hd : d ≤ i) (hd1 : 1 ≤ d) :
    Calls Tryz.prog 131 #[.slice a p.length cap, .int .i64 i, .int .i64 d] w fun e w' => e = .returned (.int .i64 (alk p i d)) ∧ ∃ n, w' = w.drewN n := by
  refine (bsame_calls a p cap i d w hp hb hi hd hd1).mono ?_
  rintro e w' ⟨⟨n, rfl, hn⟩, h⟩
  exact ⟨by rw [hn.eq (alk_most p i d hi)], h⟩
theorem added_calls (a b : Nat) (w : World) (ha : a ≤ 1000000000) (hb : b ≤ 1000000000) :
    Calls Tryz.prog 127 #[.int .i64 a, .int .i64 b] w fun e w' => e = .returned (.int .i64 ((min (a + b) 1000000000 : Nat) : Int)) ∧ w' = w := by
  go_enter Tryz.func127, Tryz.ntmps127
  by_cases h : 1000000000 < a + b
  · have hm : min (a + b) 1000000000 = 1000000000 := by omega
    rw [hm]
    have h1 : 1000000000 - (b : Int) < (a : Int) := by omega
    go_wp2
    go_ret
    exact ⟨rfl, rfl⟩
  · have hm : min (a + b) 1000000000 = a + b := by omega
    rw [hm]
    have h1 : ¬ 1000000000 - (b : Int) < (a : Int) := by omega
    go_wp2
    go_ret
    exact ⟨by go_num, rfl⟩
end Go.Proofs.YtnpnaglgllcpfaaGreat
