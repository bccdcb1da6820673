/-
  The tokens that may stand at a place, in the order of the numbers; what is known of a place out of those behind it; which list has a number: plainly.
-/
import Derived.Test.YtnpnaglgllcpfabOrd0
namespace Go.Proofs.Ytnpnaglgllcpfab
set_option maxRecDepth 100000

/-- The copies of one length from the distances 1 to D; of the lengths 2 to n + 1, and the literal; all. -/
def chIn (p : List UInt8) (i l D : Nat) : List Tok := ((List.range D).filter fun d => decide (l ≤ alk p i (d + 1))).map fun d => ⟨(l : Int), ((d + 1 : Nat) : Int), 0⟩
def chTo (p : List UInt8) (i n : Nat) : List Tok := literal p i :: (List.range n).flatMap fun l => chIn p i (l + 2) (min 32 i)
def chs (p : List UInt8) (i : Nat) : List Tok := chTo p i (p.length - i - 1)
theorem chIn_succ (p : List UInt8) (i l D : Nat) : chIn p i l (D + 1) = chIn p i l D ++ (if l ≤ alk p i (D + 1) then [⟨(l : Int), ((D + 1 : Nat) : Int), 0⟩] else []) := by
  unfold chIn
  rw [List.range_succ, List.filter_append, List.map_append]
  congr 1
  by_cases h : l ≤ alk p i (D + 1)
  · simp [h]
  · simp [h]
theorem chTo_succ (p : List UInt8) (i n : Nat) : chTo p i (n + 1) = chTo p i n ++ chIn p i (n + 2) (min 32 i) := by
  simp [chTo, List.range_succ]
theorem mem_chIn (p : List UInt8) (i l D : Nat) (t : Tok) : t ∈ chIn p i l D ↔ ∃ d, 1 ≤ d ∧ d ≤ D ∧ l ≤ alk p i d ∧ t = ⟨(l : Int), (d : Int), 0⟩ := by
  unfold chIn
  simp only [List.mem_map, List.mem_filter, List.mem_range, decide_eq_true_eq]
  constructor
  · rintro ⟨d, ⟨h1, h2⟩, rfl⟩
    exact ⟨d + 1, by omega, by omega, h2, rfl⟩
  · rintro ⟨d, h1, h2, h3, rfl⟩
    obtain ⟨d, rfl⟩ : ∃ d', d = d' + 1 := ⟨d - 1, by omega⟩
    exact ⟨d, ⟨by omega, h3⟩, rfl⟩
theorem mem_chs (p : List UInt8) (i : Nat) (hi : i < p.length) (t : Tok) : t ∈ chs p i ↔ t ∈ outToks p i := by
  rw [mem_outToks]
  unfold chs chTo
  simp only [List.mem_cons, List.mem_flatMap, List.mem_range, mem_chIn]
  constructor
  · rintro (h | ⟨l, h1, d, h2, h3, h4, rfl⟩)
    · exact .inl h
    · exact .inr ⟨d, l + 2, h2, by omega, by omega, by omega, h4, rfl⟩
  · rintro (h | ⟨d, l, h1, h2, h3, h4, h5, rfl⟩)
    · exact .inl h
    · have := (alk_most p i d (by omega)).1.1
      obtain ⟨l, rfl⟩ : ∃ l', l = l' + 2 := ⟨l - 2, by omega⟩
      exact .inr ⟨l, by omega, d, h1, by omega, h5, rfl⟩
theorem sum_zero {α : Type} : ∀ l : List α, (l.map fun _ => 0).sum = 0
  | [] => rfl
  | _ :: l => by simp [sum_zero l]
theorem sum_add {α : Type} (f g : α → Nat) : ∀ l : List α, (l.map fun x => f x + g x).sum = (l.map f).sum + (l.map g).sum
  | [] => rfl
  | x :: l => by
    have := sum_add f g l
    simp only [List.map_cons, List.sum_cons]
    omega
theorem sum_swap {α β : Type} (f : α → β → Nat) (b : List β) : ∀ a : List α, (a.map fun x => (b.map fun y => f x y).sum).sum = (b.map fun y => (a.map fun x => f x y).sum).sum
  | [] => by simp [sum_zero]
  | x :: a => by
    simp only [List.map_cons, List.sum_cons]
    rw [sum_swap f b a, sum_add]
theorem sum_low (h : Nat → Nat) (a : Nat) : ∀ n, ((List.range n).map fun l => if l + 2 ≤ a then h l else 0).sum = ((List.range (min n (a - 1))).map h).sum
  | 0 => by simp
  | n + 1 => by
    rw [List.range_succ, List.map_append, List.sum_append, sum_low h a n]
    by_cases hn : n + 2 ≤ a
    · rw [show min (n + 1) (a - 1) = min n (a - 1) + 1 by omega, List.range_succ, List.map_append, List.sum_append]
      rw [show min n (a - 1) = n by omega]
      simp [hn]
    · rw [show min (n + 1) (a - 1) = min n (a - 1) by omega]
      simp [hn]
theorem chIn_sum (g : Tok → Nat) (p : List UInt8) (i l : Nat) : ∀ D, ((chIn p i l D).map g).sum = ((List.range D).map fun d => if l ≤ alk p i (d + 1) then g ⟨(l : Int), ((d + 1 : Nat) : Int), 0⟩ else 0).sum
  | 0 => by simp [chIn]
  | D + 1 => by
    rw [chIn_succ, List.map_append, List.sum_append, chIn_sum g p i l D, List.range_succ, List.map_append, List.sum_append]
    congr 1
    by_cases h : l ≤ alk p i (D + 1)
    · simp [h]
    · simp [h]
/-- In whichever order: the sums over the tokens of a place are the same. -/
theorem chs_sum (g : Tok → Nat) (p : List UInt8) (i : Nat) (hi : i < p.length) : ((chs p i).map g).sum = ((outToks p i).map g).sum := by
  unfold chs chTo outToks
  rw [List.map_cons, List.sum_cons, List.map_cons, List.sum_cons, flatMap_sum, flatMap_sum]
  congr 1
  simp only [chIn_sum]
  rw [sum_swap (fun (l d : Nat) => if l + 2 ≤ alk p i (d + 1) then g ⟨((l + 2 : Nat) : Int), ((d + 1 : Nat) : Int), 0⟩ else 0)]
  congr 1
  apply List.map_congr_left
  intro d hd
  have ha := (alk_most p i (d + 1) (by omega)).1.1
  rw [sum_low (fun l => g ⟨((l + 2 : Nat) : Int), ((d + 1 : Nat) : Int), 0⟩)]
  rw [show min (p.length - i - 1) (alk p i (d + 1) - 1) = alk p i (d + 1) - 1 by omega]
  unfold copies
  rw [List.map_map]
  rfl
theorem chs_sorted (p : List UInt8) (i : Nat) : (chs p i).Pairwise fun a b => beforeB a b = true := by
  unfold chs chTo
  rw [List.pairwise_cons]
  constructor
  · intro t ht
    obtain ⟨l, _, h⟩ := List.mem_flatMap.1 ht
    obtain ⟨d, h1, _, _, rfl⟩ := (mem_chIn p i (l + 2) _ t).1 h
    unfold beforeB literal
    simp
    omega
  · rw [List.pairwise_flatMap]
    constructor
    · intro l _
      unfold chIn
      rw [List.pairwise_map]
      refine List.Pairwise.imp ?_ (List.Pairwise.filter _ List.pairwise_lt_range)
      intro a b hab
      unfold beforeB
      rw [if_neg (by show ¬ (((a + 1 : Nat) : Int) = 0 ∨ ((b + 1 : Nat) : Int) = 0); omega)]
      simp
      omega
    · refine List.Pairwise.imp ?_ List.pairwise_lt_range
      intro a b hab x hx y hy
      obtain ⟨d, h1, _, _, rfl⟩ := (mem_chIn p i (a + 2) _ x).1 hx
      obtain ⟨e, h2, _, _, rfl⟩ := (mem_chIn p i (b + 2) _ y).1 hy
      unfold beforeB
      rw [if_neg (by show ¬ ((d : Int) = 0 ∨ (e : Int) = 0); omega)]
      simp
      omega

/-- What a list costs that begins with this token and goes on at the least. -/
def kst (p : List UInt8) (i : Nat) (t : Tok) : Nat := t.cost + toC p (i + t.len.toNat)
/-- What the best lists from a place on begin with, in their order. -/
def firsts (p : List UInt8) (i : Nat) : List Tok := (chs p i).filter fun t => decide (kst p i t = toC p i)
/-- What is known of a place when these tokens have been gone through. -/
def RSt (p : List UInt8) (i : Nat) (l : List Tok) (c w : Nat) (f : List Tok) : Prop :=
  (l = [] ∧ c = 0 ∧ w = 0 ∧ f = []) ∨ (f ≠ [] ∧ (∀ t ∈ l, c ≤ kst p i t) ∧ f = l.filter (fun t => decide (kst p i t = c)) ∧ w = min ((f.map fun t => waysN p (i + t.len.toNat)).sum) 1000000000)
theorem RSt.new {p : List UInt8} {i c w : Nat} {l f : List Tok} {t : Tok} (h : RSt p i l c w f) (hn : f = [] ∨ kst p i t < c) : RSt p i (l ++ [t]) (kst p i t) (capW p (i + t.len.toNat)) [t] := by
  have hlt : ∀ x ∈ l, kst p i t < kst p i x := by
    rcases h with ⟨rfl, _⟩ | ⟨h1, h2, _⟩
    · intro x hx; cases hx
    · intro x hx
      have := h2 x hx
      rcases hn with h' | h'
      · exact absurd h' h1
      · omega
  refine .inr ⟨by simp, ?_, ?_, ?_⟩
  · intro x hx
    rcases List.mem_append.1 hx with h' | h'
    · have := hlt x h'; omega
    · rw [List.mem_singleton.1 h']; exact Nat.le_refl _
  · rw [List.filter_append]
    have : l.filter (fun x => decide (kst p i x = kst p i t)) = [] := by
      rw [List.filter_eq_nil_iff]
      intro x hx
      have := hlt x hx
      simp; omega
    rw [this]
    simp
  · rw [capW_is]; simp
theorem RSt.more {p : List UInt8} {i c w : Nat} {l f : List Tok} {t : Tok} (h : RSt p i l c w f) (hn : f ≠ []) (hk : kst p i t = c) : RSt p i (l ++ [t]) c (min (w + capW p (i + t.len.toNat)) 1000000000) (f ++ [t]) := by
  rcases h with ⟨_, _, _, h4⟩ | ⟨h1, h2, h3, h4⟩
  · exact absurd h4 hn
  refine .inr ⟨by simp, ?_, ?_, ?_⟩
  · intro x hx
    rcases List.mem_append.1 hx with h' | h'
    · exact h2 x h'
    · rw [List.mem_singleton.1 h']; omega
  · rw [List.filter_append, ← h3]
    simp [hk]
  · rw [h4, capW_is, List.map_append, List.sum_append]
    simp
    omega
theorem RSt.skip {p : List UInt8} {i c w : Nat} {l f : List Tok} {t : Tok} (h : RSt p i l c w f) (hn : f ≠ []) (hk : c < kst p i t) : RSt p i (l ++ [t]) c w f := by
  rcases h with ⟨_, _, _, h4⟩ | ⟨h1, h2, h3, h4⟩
  · exact absurd h4 hn
  refine .inr ⟨h1, ?_, ?_, h4⟩
  · intro x hx
    rcases List.mem_append.1 hx with h' | h'
    · exact h2 x h'
    · rw [List.mem_singleton.1 h']; omega
  · rw [List.filter_append, ← h3]
    simp
    omega
theorem RSt.bound {p : List UInt8} {i c w : Nat} {l f : List Tok} (h : RSt p i l c w f) (hl : ∀ t ∈ l, kst p i t ≤ 1000) : c ≤ 1000 ∧ w ≤ 1000000000 ∧ f.length ≤ l.length := by
  rcases h with ⟨rfl, rfl, rfl, rfl⟩ | ⟨h1, h2, h3, h4⟩
  · simp
  · refine ⟨?_, by omega, by rw [h3]; exact List.length_filter_le _ _⟩
    rcases f with _ | ⟨t, f⟩
    · exact absurd rfl h1
    · have : t ∈ l.filter (fun t => decide (kst p i t = c)) := by rw [← h3]; exact List.mem_cons_self ..
      have h5 := hl t (List.mem_filter.1 this).1
      have h6 := (List.mem_filter.1 this).2
      simp at h6
      omega
theorem waysN_pos (p : List UInt8) (j : Nat) (h : j ≤ p.length) : 1 ≤ waysN p j := by
  obtain ⟨m, u, h1, _, h2⟩ := to_some p j h
  unfold waysN
  rw [h1]; exact h2
theorem some_of_sum {α : Type} (g : α → Nat) : ∀ l : List α, 1 ≤ (l.map g).sum → ∃ x ∈ l, 1 ≤ g x
  | [], h => by simp at h
  | x :: l, h => by
    simp only [List.map_cons, List.sum_cons] at h
    by_cases hx : 1 ≤ g x
    · exact ⟨x, List.mem_cons_self .., hx⟩
    · obtain ⟨y, h1, h2⟩ := some_of_sum g l (by omega)
      exact ⟨y, List.mem_cons_of_mem _ h1, h2⟩
theorem kst_le (p : List UInt8) (i : Nat) (hi : i < p.length) (t : Tok) (ht : t ∈ chs p i) : toC p i ≤ kst p i t := toC_step p i hi t ((mem_chs p i hi t).1 ht)
theorem kst_some (p : List UInt8) (i : Nat) (hi : i < p.length) : ∃ t ∈ chs p i, kst p i t = toC p i := by
  have h1 := waysN_pos p i (by omega)
  rw [ways_step p i hi] at h1
  obtain ⟨t, h2, h3⟩ := some_of_sum _ _ h1
  refine ⟨t, (mem_chs p i hi t).2 h2, ?_⟩
  by_cases h : t.cost + toC p (i + t.len.toNat) = toC p i
  · exact h
  · rw [if_neg h] at h3; omega
theorem sum_filter {α : Type} (c : α → Bool) (g : α → Nat) : ∀ l : List α, ((l.filter c).map g).sum = (l.map fun x => if c x = true then g x else 0).sum
  | [] => rfl
  | x :: l => by
    have := sum_filter c g l
    by_cases h : c x = true
    · simp [h, this]
    · simp [h, this]
theorem firsts_ways (p : List UInt8) (i : Nat) (hi : i < p.length) : ((firsts p i).map fun t => waysN p (i + t.len.toNat)).sum = waysN p i := by
  unfold firsts
  rw [sum_filter, chs_sum _ p i hi, ways_step p i hi]
  congr 1
  apply List.map_congr_left
  intro x _
  simp only [decide_eq_true_eq]
  rfl
theorem RSt.all {p : List UInt8} {i c w : Nat} {f : List Tok} (h : RSt p i (chs p i) c w f) (hi : i < p.length) : c = toC p i ∧ w = capW p i ∧ f = firsts p i := by
  rcases h with ⟨h1, _⟩ | ⟨h1, h2, h3, h4⟩
  · simp [chs, chTo] at h1
  have hc : c = toC p i := by
    obtain ⟨t, ht, hk⟩ := kst_some p i hi
    have := h2 t ht
    rcases f with _ | ⟨x, f⟩
    · exact absurd rfl h1
    · have h5 : x ∈ (chs p i).filter (fun t => decide (kst p i t = c)) := by rw [← h3]; exact List.mem_cons_self ..
      have h6 := kst_le p i hi x (List.mem_filter.1 h5).1
      have h7 := (List.mem_filter.1 h5).2
      simp at h7
      omega
  subst hc
  have hf : f = firsts p i := h3
  refine ⟨rfl, ?_, hf⟩
  rw [h4, hf, firsts_ways p i hi, capW_is]

/-- The token by which the k-th goes, and how many go ahead of it: the program's own way. -/
def pickL (u : Tok → Nat) (k : Nat) : Nat → Tok → Nat → List Tok → Tok × Nat
  | _, pk, ah, [] => (pk, ah)
  | n, pk, ah, t :: ts => if k < n then (pk, ah) else pickL u k (n + u t) t n ts
theorem pickL_stop (u : Tok → Nat) (k n : Nat) (pk : Tok) (ah : Nat) (l : List Tok) (h : k < n) : pickL u k n pk ah l = (pk, ah) := by
  cases l with
  | nil => rfl
  | cons t ts => simp [pickL, h]
theorem pickL_is (u : Tok → Nat) (k : Nat) : ∀ (ts : List Tok) (n : Nat) (pk : Tok) (ah : Nat) (t : Tok), n ≤ k → k < n + ((t :: ts).map u).sum →
    ∃ A x B, t :: ts = A ++ x :: B ∧ pickL u k n pk ah (t :: ts) = (x, n + (A.map u).sum) ∧ n + (A.map u).sum ≤ k ∧ k < n + (A.map u).sum + u x
  | ts, n, pk, ah, t, h1, h2 => by
    have hp : pickL u k n pk ah (t :: ts) = pickL u k (n + u t) t n ts := by
      show (if k < n then _ else _) = _
      rw [if_neg (by omega)]
    rw [hp]
    by_cases hk : k < n + u t
    · exact ⟨[], t, ts, rfl, by rw [pickL_stop _ _ _ _ _ _ hk]; simp, by simp; omega, by simp; omega⟩
    · rcases ts with _ | ⟨t2, ts⟩
      · simp at h2; omega
      · obtain ⟨A, x, B, e, e2, h3, h4⟩ := pickL_is u k ts (n + u t) t n t2 (by omega) (by simp only [List.map_cons, List.sum_cons] at h2 ⊢; omega)
        refine ⟨t :: A, x, B, by rw [e]; rfl, ?_, ?_, ?_⟩
        · rw [e2]; simp; omega
        · simp; omega
        · simp; omega
def tokZ : Tok := ⟨0, 0, 0⟩
def pickAt (p : List UInt8) (i k : Nat) : Tok × Nat := pickL (fun t => capW p (i + t.len.toNat)) k 0 tokZ 0 (firsts p i)
theorem cut_sum {α : Type} (g : α → Nat) (m : Nat) : ∀ l : List α, min ((l.map g).sum) m ≤ (l.map fun x => min (g x) m).sum
  | [] => by simp
  | x :: l => by
    have := cut_sum g m l
    simp only [List.map_cons, List.sum_cons]
    omega
/-- The token by which the k-th list goes is one of the best lists' first; just those of the tokens ahead are ahead. -/
theorem pickAt_is (p : List UInt8) (i k : Nat) (hi : i < p.length) (hk : k < capW p i) : ∃ A x B, firsts p i = A ++ x :: B ∧ pickAt p i k = (x, (A.map fun t => capW p (i + t.len.toNat)).sum) ∧ (A.map fun t => capW p (i + t.len.toNat)).sum ≤ k ∧ k < (A.map fun t => capW p (i + t.len.toNat)).sum + capW p (i + x.len.toNat) := by
  have hs : k < ((firsts p i).map fun t => capW p (i + t.len.toNat)).sum := by
    have h1 := cut_sum (fun t : Tok => waysN p (i + t.len.toNat)) 1000000000 (firsts p i)
    rw [firsts_ways p i hi, ← capW_is] at h1
    have e : (fun t : Tok => capW p (i + t.len.toNat)) = fun t : Tok => min (waysN p (i + t.len.toNat)) 1000000000 := by
      funext t; exact capW_is p _
    rw [e]
    omega
  unfold pickAt
  rcases hf : firsts p i with _ | ⟨t, ts⟩
  · rw [hf] at hs; simp at hs
  · rw [hf] at hs
    obtain ⟨A, x, B, e, e2, h3, h4⟩ := pickL_is (fun t => capW p (i + t.len.toNat)) k ts 0 tokZ 0 t (by omega) (by omega)
    exact ⟨A, x, B, e, by rw [e2]; simp, by omega, by omega⟩
theorem mem_firsts (p : List UInt8) (i : Nat) (hi : i < p.length) (t : Tok) (h : t ∈ firsts p i) : t ∈ outToks p i ∧ t.cost + toC p (i + t.len.toNat) = toC p i ∧ 1 ≤ t.len ∧ i + t.len.toNat ≤ p.length := by
  have h1 := List.mem_filter.1 h
  have h2 := (mem_chs p i hi t).1 h1.1
  have h3 := out_len p i hi t h2
  have h4 := h1.2
  simp at h4
  exact ⟨h2, h4, h3.1, h3.2.1⟩
theorem before_asym (x y : Tok) (h : beforeB x y = true) : beforeB y x = false := by
  rcases hb : beforeB y x with _ | _
  · rfl
  · have := before_trans x y x h hb
    rw [before_self] at this
    cases this
theorem aheadN_first (p : List UInt8) (i : Nat) (hi : i < p.length) (A B : List Tok) (x : Tok) (h : firsts p i = A ++ x :: B) : aheadN p i x = (A.map fun t => capW p (i + t.len.toNat)).sum := by
  unfold aheadN
  rw [← chs_sum _ p i hi]
  have e : ((chs p i).map (aw p i x)).sum = ((firsts p i).map fun t => if beforeB t x = true then capW p (i + t.len.toNat) else 0).sum := by
    unfold firsts
    rw [sum_filter]
    congr 1
    apply List.map_congr_left
    intro t _
    unfold aw kst
    by_cases h1 : beforeB t x = true <;> by_cases h2 : t.cost + toC p (i + t.len.toNat) = toC p i <;> simp [h1, h2]
  have hs : (firsts p i).Pairwise fun a b => beforeB a b = true := List.Pairwise.filter _ (chs_sorted p i)
  rw [e]
  rw [h] at hs ⊢
  rw [List.pairwise_append] at hs
  obtain ⟨_, h2, h3⟩ := hs
  rw [List.pairwise_cons] at h2
  rw [List.map_append, List.sum_append, List.map_cons, List.sum_cons]
  have e1 : A.map (fun t => if beforeB t x = true then capW p (i + t.len.toNat) else 0) = A.map fun t => capW p (i + t.len.toNat) := by
    apply List.map_congr_left
    intro t ht
    rw [if_pos (h3 t ht x (List.mem_cons_self ..))]
  have e2 : B.map (fun t => if beforeB t x = true then capW p (i + t.len.toNat) else 0) = B.map fun _ => 0 := by
    apply List.map_congr_left
    intro t ht
    rw [before_asym _ _ (h2.1 t ht)]
    rfl
  rw [e1, e2, sum_zero, before_self]
  simp
/-- The k-th of the best lists from a place on. -/
def nthGo (p : List UInt8) : Nat → Nat → Nat → List Tok
  | 0, _, _ => []
  | f + 1, i, k => if i < p.length then (pickAt p i k).1 :: nthGo p f (i + (pickAt p i k).1.len.toNat) (k - (pickAt p i k).2) else []
def nthOf (p : List UInt8) (k : Int) : List Tok := nthGo p p.length 0 k.toNat
theorem nthGo_is (p : List UInt8) : ∀ (f i k : Nat), i ≤ p.length → p.length - i ≤ f → k < capW p i → tpath p i (nthGo p f i k) ∧ Tok.costs (nthGo p f i k) = toC p i ∧ aheadAll p i (nthGo p f i k) = k
  | 0, i, k, h1, h2, h3 => by
    have hi : i = p.length := by omega
    subst hi
    have h4 : (net p).to p.length = Dp.one := (net p).to_end
    have h5 : toC p p.length = 0 := by unfold toC; rw [h4]; rfl
    have h6 : capW p p.length = 1 := by unfold capW; rw [h4]; rfl
    refine ⟨?_, ?_, ?_⟩
    · simp [nthGo, tpath]
    · simp [nthGo, Tok.costs, h5]
    · simp [nthGo, aheadAll]; omega
  | f + 1, i, k, h1, h2, h3 => by
    by_cases hi : i < p.length
    · obtain ⟨A, x, B, e, e2, h4, h5⟩ := pickAt_is p i k hi h3
      obtain ⟨m1, m2, m3, m4⟩ := mem_firsts p i hi x (by rw [e]; simp)
      simp only [nthGo, if_pos hi, e2]
      obtain ⟨g1, g2, g3⟩ := nthGo_is p f (i + x.len.toNat) (k - (A.map fun t => capW p (i + t.len.toNat)).sum) m4 (by omega) (by omega)
      refine ⟨⟨hi, m1, g1⟩, ?_, ?_⟩
      · have : ∀ r, Tok.costs (x :: r) = x.cost + Tok.costs r := fun r => by simp [Tok.costs]
        rw [this, g2, m2]
      · simp only [aheadAll]
        rw [g3, aheadN_first p i hi A B x e]
        omega
    · have hi : i = p.length := by omega
      subst hi
      have := nthGo_is p 0 p.length k (Nat.le_refl _) (by omega) h3
      simpa [nthGo] using this
theorem leastC_is (p : List UInt8) : leastC p = toC p 0 := rfl
theorem leastW_is (p : List UInt8) : cap9 (leastW p) = (capW p 0 : Int) := by
  unfold leastW capW cap9
  obtain ⟨m, u, h, _⟩ := to_some p 0 (by omega)
  rw [h]
  simp only
  omega
/-- The list that Nth tells has its number. -/
theorem nthOf_is (p : List UInt8) (k : Int) (hp : p.length ≤ 64) (h0 : 0 ≤ k) (hk : k < (capW p 0 : Int)) : bestB p (nthOf p k) = true ∧ (rankN p (nthOf p k) : Int) = k := by
  obtain ⟨h1, h2, h3⟩ := nthGo_is p p.length 0 k.toNat (by omega) (by omega) (by omega)
  have hle := capW_le p 0
  refine ⟨?_, ?_⟩
  · rw [bestB_iff]
    refine ⟨?_, by unfold nthOf; rw [h2]; rfl⟩
    have := (expand_tpath p hp (nthOf p k) 0 (by omega)).2 h1
    simpa using this
  · unfold rankN nthOf
    rw [rankGo_is p _ 0 0 (by omega), h3]
    omega
/-- The list that Parse tells: the first of all. -/
def parseOf (p : List UInt8) : List Tok := nthOf p 0
theorem capW_pos (p : List UInt8) (j : Nat) (h : j ≤ p.length) : 1 ≤ capW p j := by
  have := waysN_pos p j h
  rw [capW_is]; omega
theorem parse_chosen : Chosen parseOf := fun p hp => (nthOf_is p 0 hp (by omega) (by have := capW_pos p 0 (by omega); omega)).1
end Go.Proofs.Ytnpnaglgllcpfab
