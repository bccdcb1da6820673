/-
  Plain facts on tokens that make a piece, of no program: they are the ways through its places.
-/
import Derived.Test.YtnpnaglgllcpfabDp
namespace Go.Proofs.Ytnpnaglgllcpfab

/-- So many bytes from i on are those from d back on. -/
def Alike (p : List UInt8) (i d n : Nat) : Prop := i + n ≤ p.length ∧ ∀ m, m < n → p.getD (i + m) 0 = p.getD (i + m - d) 0
/-- .. and no more. -/
def AlikeMost (p : List UInt8) (i d n : Nat) : Prop := Alike p i d n ∧ (i + n = p.length ∨ p.getD (i + n) 0 ≠ p.getD (i + n - d) 0)

def alkGo (p : List UInt8) (d : Nat) : Nat → Nat → Nat
  | 0, _ => 0
  | f + 1, j => if p.getD j 0 = p.getD (j - d) 0 then alkGo p d f (j + 1) + 1 else 0
/-- How many bytes from i on are those from d back on. -/
def alk (p : List UInt8) (i d : Nat) : Nat := alkGo p d (p.length - i) i

theorem alkGo_most (p : List UInt8) (d : Nat) : ∀ (f i : Nat), i + f = p.length → AlikeMost p i d (alkGo p d f i)
  | 0, i, h => ⟨⟨by simp [alkGo]; omega, fun m hm => by simp [alkGo] at hm⟩, .inl (by simp [alkGo]; omega)⟩
  | f + 1, i, h => by
    simp only [alkGo]
    by_cases he : p.getD i 0 = p.getD (i - d) 0
    · rw [if_pos he]
      obtain ⟨⟨h1, h2⟩, h3⟩ := alkGo_most p d f (i + 1) (by omega)
      refine ⟨⟨by omega, fun m hm => ?_⟩, ?_⟩
      · match m with
        | 0 => simpa using he
        | m + 1 =>
          have := h2 m (by omega)
          rw [show i + 1 + m = i + (m + 1) by omega] at this
          exact this
      · rw [show i + (alkGo p d f (i + 1) + 1) = i + 1 + alkGo p d f (i + 1) by omega]
        exact h3
    · rw [if_neg he]
      exact ⟨⟨by omega, fun m hm => by omega⟩, .inr (by simpa using he)⟩
theorem alk_most (p : List UInt8) (i d : Nat) (h : i ≤ p.length) : AlikeMost p i d (alk p i d) := alkGo_most p d _ i (by omega)
theorem AlikeMost.le {p : List UInt8} {i d n m : Nat} (h : AlikeMost p i d n) (hm : Alike p i d m) : m ≤ n := by
  rcases Nat.lt_or_ge n m with hlt | hge
  · have h1 := hm.1
    have h2 := hm.2 n hlt
    rcases h.2 with h3 | h3
    · omega
    · exact absurd h2 h3
  · exact hge
theorem AlikeMost.eq {p : List UInt8} {i d n m : Nat} (h : AlikeMost p i d n) (k : AlikeMost p i d m) : n = m :=
  Nat.le_antisymm (k.le h.1) (h.le k.1)
theorem Alike.mono {p : List UInt8} {i d n m : Nat} (h : Alike p i d n) (hm : m ≤ n) : Alike p i d m :=
  ⟨by have := h.1; omega, fun k hk => h.2 k (by omega)⟩

/-- The copies from one distance back. -/
def copies (p : List UInt8) (i d : Nat) : List Tok := (List.range (alk p i d - 1)).map fun (l : Nat) => ⟨(l : Int) + 2, d, 0⟩
def literal (p : List UInt8) (i : Nat) : Tok := ⟨1, 0, (p.getD i 0).toNat⟩
/-- The tokens that may stand at a place of a piece. -/
def outToks (p : List UInt8) (i : Nat) : List Tok := literal p i :: (List.range (min 32 i)).flatMap fun d => copies p i (d + 1)

theorem mem_outToks (p : List UInt8) (i : Nat) (t : Tok) : t ∈ outToks p i ↔ t = literal p i ∨ ∃ d l : Nat, 1 ≤ d ∧ d ≤ 32 ∧ d ≤ i ∧ 2 ≤ l ∧ l ≤ alk p i d ∧ t = ⟨l, d, 0⟩ := by
  unfold outToks copies
  simp only [List.mem_cons, List.mem_flatMap, List.mem_map, List.mem_range]
  constructor
  · rintro (h | ⟨d, hd, l, hl, rfl⟩)
    · exact .inl h
    · exact .inr ⟨d + 1, l + 2, by omega, by omega, by omega, by omega, by omega, by simp⟩
  · rintro (h | ⟨d, l, h1, h2, h3, h4, h5, rfl⟩)
    · exact .inl h
    · refine .inr ⟨d - 1, by omega, l - 2, by rw [show d - 1 + 1 = d by omega]; omega, ?_⟩
      rw [show d - 1 + 1 = d by omega]
      congr 1
      omega

theorem out_len (p : List UInt8) (i : Nat) (hi : i < p.length) (t : Tok) (h : t ∈ outToks p i) : 1 ≤ t.len ∧ i + t.len.toNat ≤ p.length ∧ t.dist ≤ 32 ∧ 0 ≤ t.dist := by
  rcases (mem_outToks p i t).1 h with rfl | ⟨d, l, h1, h2, h3, h4, h5, rfl⟩
  · exact ⟨by simp [literal], by simp [literal]; omega, by simp [literal], by simp [literal]⟩
  · have := (alk_most p i d (by omega)).1.1
    exact ⟨by simp; omega, by simp; omega, by simp; omega, by simp⟩

/-- The places of a piece. -/
def net (p : List UInt8) : Dp.Net where
  N := p.length
  E := fun i => (outToks p i).map fun t => (t.len.toNat, t.cost)
  far := fun i hi e he => by
    obtain ⟨t, ht, rfl⟩ := List.mem_map.1 he
    have := out_len p i hi t ht
    exact ⟨by simp only; omega, this.2.1⟩

/-- Tokens that lead from a place to the end. -/
def tpath (p : List UInt8) : Nat → List Tok → Prop
  | i, [] => i = p.length
  | i, t :: ts => i < p.length ∧ t ∈ outToks p i ∧ tpath p (i + t.len.toNat) ts

theorem tpath_path (p : List UInt8) : ∀ (ts : List Tok) (i : Nat), tpath p i ts → (net p).path i (ts.map fun t => (t.len.toNat, t.cost)) ∧ Dp.pathCost (ts.map fun t => (t.len.toNat, t.cost)) = Tok.costs ts
  | [], i, h => ⟨h, rfl⟩
  | t :: ts, i, h => by
    obtain ⟨h1, h2, h3⟩ := h
    have ih := tpath_path p ts _ h3
    refine ⟨⟨h1, List.mem_map.2 ⟨t, h2, rfl⟩, ih.1⟩, ?_⟩
    have h4 := ih.2
    simp [Dp.pathCost, Tok.costs] at h4 ⊢
    omega
theorem path_tpath (p : List UInt8) : ∀ (es : List (Nat × Nat)) (i : Nat), (net p).path i es → ∃ ts, tpath p i ts ∧ Tok.costs ts = Dp.pathCost es
  | [], i, h => ⟨[], h, rfl⟩
  | e :: es, i, h => by
    obtain ⟨h1, h2, h3⟩ := h
    obtain ⟨t, ht, rfl⟩ := List.mem_map.1 h2
    obtain ⟨ts, h4, h5⟩ := path_tpath p es _ h3
    refine ⟨t :: ts, ⟨h1, ht, h4⟩, ?_⟩
    simp [Dp.pathCost, Tok.costs] at h5 ⊢
    omega

theorem getD_take (p : List UInt8) (n k : Nat) (h : k < n) : (p.take n).getD k 0 = p.getD k 0 := by
  simp [List.getD, h]
theorem take_next (p : List UInt8) (n : Nat) (h : n < p.length) : p.take (n + 1) = p.take n ++ [p.getD n 0] := by
  rw [List.take_succ_eq_append_getElem h]; simp [List.getD, h]

/-- A copy goes on as the piece does just where it is alike. -/
theorem copyN_take (p : List UInt8) (i d : Nat) (hd : 1 ≤ d) (hdi : d ≤ i) : ∀ l, i + l ≤ p.length → (Tok.copyN l d (p.take i) = p.take (i + l) ↔ Alike p i d l)
  | 0, h => ⟨fun _ => ⟨h, fun m hm => by omega⟩, fun _ => rfl⟩
  | l + 1, h => by
    have ih := copyN_take p i d hd hdi l (by omega)
    rw [Tok.copyN_succ, show i + (l + 1) = i + l + 1 by omega, take_next p (i + l) (by omega)]
    constructor
    · intro he
      obtain ⟨e1, e2⟩ := List.append_inj' he rfl
      have hal := ih.1 e1
      refine ⟨by omega, fun m hm => ?_⟩
      rcases Nat.lt_or_ge m l with hlt | hge
      · exact hal.2 m hlt
      · have : m = l := by omega
        subst this
        rw [e1, List.length_take, Nat.min_eq_left (by omega), getD_take p _ _ (by omega)] at e2
        simp at e2
        simpa using e2.symm
    · intro hal
      have e1 := ih.2 (hal.mono (by omega))
      rw [e1, List.length_take, Nat.min_eq_left (by omega), getD_take p _ _ (by omega), hal.2 l (by omega)]

theorem copyN_prefix (d : Nat) : ∀ (n : Nat) (out : List UInt8), ∃ r, Tok.copyN n d out = out ++ r
  | 0, out => ⟨[], by simp [Tok.copyN]⟩
  | n + 1, out => by
    obtain ⟨r, hr⟩ := copyN_prefix d n (out ++ [out.getD (out.length - d) 0])
    exact ⟨[out.getD (out.length - d) 0] ++ r, by rw [Tok.copyN, hr, List.append_assoc]⟩
theorem step_prefix (out : List UInt8) (t : Tok) : ∃ r, Tok.step out t = out ++ r := by
  unfold Tok.step
  split
  · exact ⟨_, rfl⟩
  · exact copyN_prefix _ _ _
theorem expand_prefix : ∀ (ts : List Tok) (out o : List UInt8), Tok.expand out ts = some o → ∃ r, o = out ++ r
  | [], out, o, h => ⟨[], by simp [Tok.expand] at h; simp [h]⟩
  | t :: ts, out, o, h => by
    simp only [Tok.expand] at h
    split at h
    · obtain ⟨r, hr⟩ := expand_prefix ts _ o h
      obtain ⟨r', hr'⟩ := step_prefix out t
      exact ⟨r' ++ r, by rw [hr, hr', List.append_assoc]⟩
    · cases h
theorem prefix_take {a o r : List UInt8} (h : o = a ++ r) : a = o.take a.length := by rw [h]; simp

/-- A token that may stand at a place of a piece takes it on to the place behind. -/
theorem out_step (p : List UInt8) (hp : p.length ≤ 64) (i : Nat) (hlt : i < p.length) (t : Tok) (hmem : t ∈ outToks p i) : Tok.fitsB t i = true ∧ Tok.step (p.take i) t = p.take (i + t.len.toNat) := by
  rcases (mem_outToks p i t).1 hmem with rfl | ⟨d, l, h1, h2, h3, h4, h5, rfl⟩
  · refine ⟨?_, ?_⟩
    · rw [Tok.fits_iff]
      have hb := (p.getD i 0).toNat_lt
      unfold literal
      generalize (p.getD i 0).toNat = y at *
      simp
      omega
    · have : Tok.step (p.take i) (literal p i) = p.take i ++ [UInt8.ofNat (((p.getD i 0).toNat : Int)).toNat] := if_pos rfl
      rw [this, Int.toNat_natCast, show (literal p i).len.toNat = 1 from rfl, take_next p i hlt]
      simp
  · have hal := (alk_most p i d (by omega)).1.mono h5
    have hal1 := hal.1
    refine ⟨?_, ?_⟩
    · rw [Tok.fits_iff]
      simp
      omega
    · have hs1 : Tok.step (p.take i) ⟨l, d, 0⟩ = Tok.copyN l d (p.take i) := by
        unfold Tok.step
        refine (if_neg (show ¬ (d : Int) = 0 by omega)).trans ?_
        simp
      rw [hs1]
      simp only [Int.toNat_natCast]
      exact (copyN_take p i d h1 h3 l hal1).2 hal

/-- Right tokens that make the piece are the ways through it. -/
theorem expand_tpath (p : List UInt8) (hp : p.length ≤ 64) : ∀ (ts : List Tok) (i : Nat), i ≤ p.length → (Tok.expand (p.take i) ts = some p ↔ tpath p i ts)
  | [], i, hi => by
    simp only [Tok.expand, tpath, Option.some.injEq]
    constructor
    · intro h
      have := congrArg List.length h
      rw [List.length_take] at this
      omega
    · intro h
      rw [h, List.take_length]
  | t :: ts, i, hi => by
    have hlen : (p.take i).length = i := by rw [List.length_take]; omega
    simp only [Tok.expand, tpath, hlen]
    constructor
    · intro h
      split at h
      case isFalse => cases h
      case isTrue hf =>
        have hsl := Tok.step_length (p.take i) t _ hf
        rw [hlen] at hsl
        obtain ⟨r, hr⟩ := expand_prefix ts _ p h
        have hpl := congrArg List.length hr
        rw [List.length_append] at hpl
        have hst := prefix_take hr
        have hff := (Tok.fits_iff t i).1 hf
        have ht1 : 1 ≤ t.len := by omega
        have hn : (Tok.step (p.take i) t).length = i + t.len.toNat := by omega
        rw [hn] at hst
        have hlt : i < p.length := by omega
        have hmem : t ∈ outToks p i := by
          rw [mem_outToks]
          rcases hff.1 with ⟨h1, h2, h3, h4⟩ | ⟨h1, h2, h3, h4⟩
          · left
            obtain ⟨l, d, b⟩ := t
            simp only at h1 h2 h3 h4 hst
            subst h1 h2
            have hs1 : Tok.step (p.take i) ⟨1, 0, b⟩ = p.take i ++ [UInt8.ofNat b.toNat] := if_pos rfl
            rw [hs1, show i + (1 : Int).toNat = i + 1 from rfl, take_next p i hlt] at hst
            obtain ⟨_, e2⟩ := List.append_inj' hst rfl
            simp only [List.cons.injEq, and_true] at e2
            have e3 := congrArg UInt8.toNat e2
            simp at e3
            unfold literal
            congr 1
            rw [← e2]
            simp
            omega
          · right
            obtain ⟨l, d, b⟩ := t
            simp only at h1 h2 h3 h4 hst hff hpl ht1 hn
            obtain ⟨L, rfl⟩ : ∃ L : Nat, l = (L : Int) := ⟨l.toNat, by omega⟩
            obtain ⟨D, rfl⟩ : ∃ D : Nat, d = (D : Int) := ⟨d.toNat, by omega⟩
            subst h4
            have hs1 : Tok.step (p.take i) ⟨L, D, 0⟩ = Tok.copyN L D (p.take i) := by
              unfold Tok.step
              refine (if_neg (show ¬ (D : Int) = 0 by omega)).trans ?_
              simp
            rw [hs1, Int.toNat_natCast] at hst
            have hal := (copyN_take p i D (by omega) (by omega) L (by simp at hn; omega)).1 hst
            exact ⟨D, L, by omega, by omega, by omega, by omega, (alk_most p i D hi).le hal, rfl⟩
        refine ⟨hlt, hmem, (expand_tpath p hp ts _ (by omega)).1 ?_⟩
        rw [← hst]; exact h
    · rintro ⟨hlt, hmem, hrest⟩
      have hl := out_len p i hlt t hmem
      have hr := (expand_tpath p hp ts _ hl.2.1).2 hrest
      have key := out_step p hp i hlt t hmem
      rw [if_pos key.1, key.2]
      exact hr

/-- There is always a way: literals. -/
theorem tpath_lits (p : List UInt8) : ∀ (k i : Nat), i + k = p.length → ∃ ts, tpath p i ts ∧ Tok.costs ts = 9 * k
  | 0, i, h => ⟨[], by simpa [tpath] using h, rfl⟩
  | k + 1, i, h => by
    obtain ⟨ts, h1, h2⟩ := tpath_lits p k (i + 1) (by omega)
    refine ⟨literal p i :: ts, ⟨by omega, (mem_outToks p i _).2 (.inl rfl), h1⟩, ?_⟩
    have : (literal p i).cost = 9 := if_pos rfl
    simp [Tok.costs] at h2 ⊢
    omega
/-- What is known of a place, from there to the end: a cost of at most 9 a byte, at least one way. -/
theorem to_some (p : List UInt8) (i : Nat) (hi : i ≤ p.length) : ∃ m w, (net p).to i = some (m, w) ∧ m ≤ 9 * (p.length - i) ∧ 1 ≤ w := by
  obtain ⟨ts, h1, h2⟩ := tpath_lits p (p.length - i) i (by omega)
  obtain ⟨h3, h4⟩ := tpath_path p ts i h1
  obtain ⟨b, v, h5, h6⟩ := (net p).path_le _ _ h3
  exact ⟨b, v, h5, by omega, (net p).to_pos i b v h5⟩
/-- No tokens that make the piece cost less than what is known of its beginning. -/
theorem least_le (p : List UInt8) (hp : p.length ≤ 64) (ts : List Tok) (h : Tok.expand [] ts = some p) (m w : Nat) (hm : (net p).to 0 = some (m, w)) : m ≤ Tok.costs ts := by
  have h1 := (expand_tpath p hp ts 0 (by omega)).1 (by simpa using h)
  obtain ⟨h3, h4⟩ := tpath_path p ts 0 h1
  obtain ⟨b, v, h5, h6⟩ := (net p).path_le _ _ h3
  rw [hm] at h5
  simp at h5
  omega
end Go.Proofs.Ytnpnaglgllcpfab
