/-
  Lemmas for the law All: RdA, Sb.
-/
import Derived.Test.YtnpnaglgllcpfaaGreatM03
import Derived.Test.YtnpnaglgllcpfaaGreatM02
import Derived.Deep.AppendLies
import Derived.Deep.LoopGhost
import Derived.WalkSpells
import Derived.Laws.IdiomStrings
import Derived.Laws.ShiftsVar
/- What is read of a stream, plainly; tokens, pieces and data as rows in memory; what Decompress and Unpack are to answer. -/
namespace Go.Proofs.YtnpnaglgllcpfaaGreat
set_option maxRecDepth 100000
open Go.RowKit

/-- What was there is there, but for block q. -/
structure OneKept (w w' : World) (q : Nat) : Prop where
  os : w'.os = w.os
  tape : w'.tape = w.tape
  output : w'.output = w.output
  size : w.heap.size ≤ w'.heap.size
  heap : ∀ k, k < w.heap.size → k ≠ q → w'.heap[k]? = w.heap[k]?
theorem OneKept.refl (w : World) (q : Nat) : OneKept w w q := ⟨rfl, rfl, rfl, Nat.le_refl _, fun _ _ _ => rfl⟩
theorem OneKept.trans {w w1 w2 : World} {q : Nat} (h : OneKept w w1 q) (k : OneKept w1 w2 q) : OneKept w w2 q :=
  ⟨k.os.trans h.os, k.tape.trans h.tape, k.output.trans h.output, Nat.le_trans h.size k.size, fun i hi hq => (k.heap i (Nat.lt_of_lt_of_le hi h.size) hq).trans (h.heap i hi hq)⟩
theorem OneKept.drewN {w w' : World} {q : Nat} (h : OneKept w w' q) (n : Nat) : OneKept w (w'.drewN n) q := ⟨h.os, h.tape, h.output, h.size, h.heap⟩
theorem OneKept.set {w w' : World} {q i : Nat} (h : OneKept w w' q) (u : Value) : OneKept w (w'.setCell ⟨q, i, none⟩ u) q :=
  ⟨h.os, h.tape, h.output, by rw [set_size]; exact h.size, fun k hk hq => by rw [set_other u hq]; exact h.heap k hk hq⟩
theorem OneKept.alloc {w w' : World} {q : Nat} (h : OneKept w w' q) (o : Obj) : OneKept w (w'.alloc o) q :=
  ⟨h.os, h.tape, h.output, by have := h.size; simp; omega, fun k hk hq => by rw [Below.heap_alloc w' o k (Nat.lt_of_lt_of_le hk h.size)]; exact h.heap k hk hq⟩
theorem OneKept.below {w w' : World} {q B : Nat} (h : OneKept w w' q) (hq : B ≤ q) (hB : B ≤ w.heap.size) : Below B w w' :=
  ⟨h.os, h.tape, h.output, h.size, fun k hk => h.heap k (by omega) (by omega)⟩
/-- A number off some bits, z noughts having been read: its value and what is left; or an error. -/
def rNum (e : Int) : Nat → List Bool → Except Int (Nat × List Bool)
  | _, [] => .error 4
  | z, true :: R => if R.length < z then .error 4 else .ok (2 ^ z + valB (R.take z), R.drop z)
  | z, false :: R => if 6 ≤ z then .error e else rNum e (z + 1) R
theorem drop_cons (L : List Bool) (n : Nat) (h : n < L.length) : L.drop n = L[n] :: L.drop (n + 1) := List.drop_eq_getElem_cons h
/-- The bits that fill the byte are noughts. -/
def padB (R : List Bool) : Bool := (R.take (R.length % 8)).all fun b => !b
theorem padB_full (R : List Bool) (h : R.length % 8 = 0) : padB R = true := by simp [padB, h]
theorem padB_cons (b : Bool) (R : List Bool) (h : ¬ (R.length + 1) % 8 = 0) : padB (b :: R) = (!b && padB R) := by
  unfold padB
  have : (b :: R).length % 8 = R.length % 8 + 1 := by simp only [List.length_cons]; omega
  rw [this, List.take_succ_cons]
  simp
/-- Where the byte ends. -/
def byteEnd (L : List Bool) (n : Nat) : Nat := n + (L.length - n) % 8
/-- A token off some bits, so much being made, so much left. -/
def rTok (made left : Nat) : List Bool → Except Int (Tok × List Bool)
  | [] => .error 4
  | false :: R => if R.length < 8 then .error 4 else .ok (⟨1, 0, valB (R.take 8)⟩, R.drop 8)
  | true :: R =>
    match rNum 6 0 R with
    | .error c => .error c
    | .ok (n, R1) =>
      if left < n + 1 then .error 6
      else match rNum 6 0 R1 with
        | .error c => .error c
        | .ok (d, R2) => if 32 < d ∨ made < d then .error 6 else .ok (⟨n + 1, d, 0⟩, R2)
theorem tok_box {w w1 : World} {q : Nat} {o : Obj} (hk : OneKept (w.alloc o) w1 q) (h : w.heap.size ≠ q) : w1.heap[w.heap.size]? = some o := by
  rw [hk.heap _ (by simp) h]; exact heap_alloc_new w o
theorem rNum_pos : ∀ (R : List Bool) (z : Nat) (e : Int) (v : Nat) (R' : List Bool), rNum e z R = .ok (v, R') → 1 ≤ v
  | [], _, _, _, _, h => by simp [rNum] at h
  | true :: R, z, e, v, R', h => by
    simp only [rNum] at h
    split at h
    · cases h
    · simp at h
      have := @Nat.one_le_two_pow z
      omega
  | false :: R, z, e, v, R', h => by
    simp only [rNum] at h
    split at h
    · cases h
    · exact rNum_pos R _ e v R' h
theorem valB_byte (l : List Bool) (h : l.length ≤ 8) : valB l < 256 :=
  Nat.lt_of_lt_of_le (valB_lt l) (Nat.pow_le_pow_right (n := 2) (by omega) h)
/-- A token that is read may stand there. -/
theorem rTok_fits {made left : Nat} {R R' : List Bool} {t : Tok} (h : rTok made left R = .ok (t, R')) (hml : made + left ≤ 64) (hl : 1 ≤ left) : Tok.fitsB t made = true ∧ 1 ≤ t.len ∧ t.len ≤ left := by
  match R, h with
  | false :: R, h =>
    simp only [rTok] at h
    split at h
    · cases h
    · simp at h
      obtain ⟨rfl, _⟩ := h
      refine ⟨?_, by simp, by simp; omega⟩
      rw [Tok.fits_iff]
      have := valB_byte (R.take 8) (by rw [List.length_take]; omega)
      simp
      omega
  | true :: R, h =>
    simp only [rTok] at h
    split at h
    · cases h
    · rename_i n R1 hn
      split at h
      · cases h
      · split at h
        · cases h
        · rename_i d R2 hd
          split at h
          · cases h
          · simp at h
            obtain ⟨rfl, _⟩ := h
            have h1 := rNum_pos _ _ _ _ _ hn
            have h2 := rNum_pos _ _ _ _ _ hd
            refine ⟨?_, by simp; omega, by simp; omega⟩
            rw [Tok.fits_iff]
            simp
            omega
/-- Tokens off some bits, till they have made n bytes. -/
def rToks (n : Nat) : Nat → Nat → List Bool → Except Int (List Tok × List Bool)
  | 0, _, R => .ok ([], R)
  | f + 1, made, R =>
    if n ≤ made then .ok ([], R)
    else match rTok made (n - made) R with
      | .error c => .error c
      | .ok (t, R1) =>
        match rToks n f (made + t.len.toNat) R1 with
        | .error c => .error c
        | .ok (ts, R2) => .ok (t :: ts, R2)
/-- Ahead of what comes. -/
def pre (acc : List Tok) : Except Int (List Tok × List Bool) → Except Int (List Tok × List Bool)
  | .error c => .error c
  | .ok (ts, R) => .ok (acc ++ ts, R)
theorem pre_nil (x : Except Int (List Tok × List Bool)) : pre [] x = x := by
  match x with
  | .error _ => rfl
  | .ok (_, _) => rfl
theorem rToks_error {n f made : Nat} {R : List Bool} {c : Int} (acc : List Tok) (hm : made < n) (h : rTok made (n - made) R = .error c) : pre acc (rToks n (f + 1) made R) = .error c := by
  have : ¬ n ≤ made := by omega
  simp only [rToks, if_neg this, h, pre]
theorem rToks_next {n f made : Nat} {R R1 : List Bool} {t : Tok} (acc : List Tok) (hm : made < n) (h : rTok made (n - made) R = .ok (t, R1)) : pre acc (rToks n (f + 1) made R) = pre (acc ++ [t]) (rToks n f (made + t.len.toNat) R1) := by
  have : ¬ n ≤ made := by omega
  simp only [rToks, if_neg this, h]
  match rToks n f (made + t.len.toNat) R1 with
  | .error _ => rfl
  | .ok (_, _) => simp [pre]
theorem rToks_done {n f made : Nat} {R : List Bool} (acc : List Tok) (hm : n ≤ made) : pre acc (rToks n f made R) = .ok (acc, R) := by
  match f with
  | 0 => simp [rToks, pre]
  | f + 1 => simp [rToks, hm, pre]
/-- A frame of n bytes off some bits: its tokens, and what is left. -/
def rFrame (n : Nat) (R : List Bool) : Except Int (List Tok × List Bool) :=
  match rToks n n 0 R with
  | .error c => .error c
  | .ok (ts, R1) =>
    if padB R1 = false then .error 7
    else if (R1.drop (R1.length % 8)).length < 16 then .error 4
    else if ((valB ((R1.drop (R1.length % 8)).take 8) : Int) + 256 * (valB (((R1.drop (R1.length % 8)).drop 8).take 8) : Int) ≠ Plain.total ((Tok.expand [] ts).getD [])) then .error 8
    else .ok (ts, (R1.drop (R1.length % 8)).drop 16)
def cellsT (ts : List Tok) : List Value := ts.flatMap fun t => [.int .i64 t.len, .int .i64 t.dist, .int .i64 t.byte]
theorem cellsT_snoc (ts : List Tok) (t : Tok) : cellsT (ts ++ [t]) = cellsT ts ++ [.int .i64 t.len, .int .i64 t.dist, .int .i64 t.byte] := by simp [cellsT]
theorem cellsT_get : ∀ (ts : List Tok) (i : Nat) (h : i < ts.length), (cellsT ts)[i * 3]? = some (.int .i64 ts[i].len) ∧ (cellsT ts)[i * 3 + 1]? = some (.int .i64 ts[i].dist) ∧ (cellsT ts)[i * 3 + 2]? = some (.int .i64 ts[i].byte)
  | [], i, h => by simp at h
  | t :: ts, 0, _ => by simp [cellsT]
  | t :: ts, i + 1, h => by
    have := cellsT_get ts i (by simpa using h)
    have e : cellsT (t :: ts) = [.int .i64 t.len, .int .i64 t.dist, .int .i64 t.byte] ++ cellsT ts := by simp [cellsT]
    rw [e, show (i + 1) * 3 = i * 3 + 3 by omega]
    simpa [List.getElem?_append] using this
/-- The slice v is the call's own (from block B on) and holds these tokens. -/
def TokRow (w : World) (B : Nat) (v : Value) (ts : List Tok) : Prop := w.ownsRow B 42 3 v ts.length (cellsT ts)
theorem TokRow.form {w : World} {B : Nat} {v : Value} {ts : List Tok} (h : TokRow w B v ts) : ∃ ao cp, v = .slice ao ts.length cp := by
  rcases h.2 with ⟨rfl, hn⟩ | ⟨g, cap, cur, rfl, _⟩
  · exact ⟨none, 0, by rw [hn]⟩
  · exact ⟨_, _, rfl⟩
theorem TokRow.toks {w : World} {B : Nat} {a : Option Addr} {cap : Nat} {ts : List Tok} (h : TokRow w B (.slice a ts.length cap) ts) : ToksAt w a ts := by
  rcases Nat.eq_zero_or_pos ts.length with h0 | h0
  · exact .inl (List.eq_nil_of_length_eq_zero h0)
  · rcases h.2 with ⟨_, hn⟩ | ⟨g, cp, cur, hv, hb, hg, _⟩
    · omega
    · simp at hv
      obtain ⟨rfl, rfl⟩ := hv
      refine .inr ⟨g, 0, rfl, (Array.getElem?_eq_some_iff.1 hg).1, fun i hi => ?_⟩
      have hadd : ∀ j, (⟨g, 0, none⟩ : Addr).add j = ⟨g, j, none⟩ := fun j => by unfold Addr.add; split <;> simp_all
      obtain ⟨e0, e1, e2⟩ := cellsT_get ts i hi
      have k0 := World.ownsRow.cells h (g := g) rfl _ _ e0
      have k1 := World.ownsRow.cells h (g := g) rfl _ _ e1
      have k2 := World.ownsRow.cells h (g := g) rfl _ _ e2
      rw [hadd] at k0 k1 k2
      simp only [Nat.zero_add]
      exact ⟨k0, k1, k2⟩
theorem TokRow.kept {w w' : World} {B q : Nat} {v : Value} {ts : List Tok} (h : TokRow w B v ts) (hk : OneKept w w' q) (hq : q < B) : TokRow w' B v ts := by
  refine World.ownsRow.kept h (row := some q) ⟨hk.os, hk.tape, hk.output, hk.size, fun k hk' hne => hk.heap k hk' (fun e => hne (by rw [e]))⟩ ?_
  rcases hv : v.ownBlock with _ | k
  · exact .inl rfl
  · refine .inr (fun e => ?_)
    have := (World.ownsRow.lt h k hv).1
    simp at e
    omega
theorem TokRow.alloc {w : World} {B : Nat} {v : Value} {ts : List Tok} (h : TokRow w B v ts) (o : Obj) : TokRow (w.alloc o) B v ts := World.ownsRow.alloc h o
theorem infoTok : (Tryz.prog.info? 42).map (fun i => (i.zero, i.size, i.bytes)) = some (some (.agg #[.int .i64 0, .int .i64 0, .int .i64 0]), 3, 24) := by kernel_rfl
theorem cell_new3 (w : World) (x y z : Value) (t : TypeId) (j : Nat) (v : Value) (hj : [x, y, z][j]? = some v) : (w.alloc (.cells #[x, y, z] t)).cell? ((⟨w.heap.size, 0, none⟩ : Addr).add j) = some v := by
  match j, hj with
  | 0, hj => simp at hj; subst hj; simp [Addr.add]
  | 1, hj => simp at hj; subst hj; simp [Addr.add]
  | 2, hj => simp at hj; subst hj; simp [Addr.add]
theorem fr_step_ok {L : List Bool} {n n0 made m m' : Nat} {acc : List Tok} {out : List UInt8} {t : Tok} (hm : made < n) (hn : n ≤ 64) (hacc : acc.length ≤ made)
    (hex : Tok.expand [] acc = some out) (hol : out.length = made) (heq : rToks n n 0 (L.drop n0) = pre acc (rToks n (n - acc.length) made (L.drop m))) (ht : rTok made (n - made) (L.drop m) = .ok (t, L.drop m')) :
    Tok.expand [] (acc ++ [t]) = some (Tok.step out t) ∧ ((Tok.step out t).length : Int) = made + t.len ∧ 1 ≤ t.len ∧ t.len ≤ n - made ∧ rToks n n 0 (L.drop n0) = pre (acc ++ [t]) (rToks n (n - (acc ++ [t]).length) (made + t.len.toNat) (L.drop m')) := by
  obtain ⟨hfit, h1, h2⟩ := rTok_fits ht (by omega) (by omega)
  refine ⟨?_, ?_, h1, by omega, ?_⟩
  · rw [Tok.expand_append, hex]
    simp [Tok.expand, hol, hfit]
  · have := Tok.step_length out t _ hfit
    rw [this, hol]
  · rw [heq, show n - acc.length = (n - (acc ++ [t]).length) + 1 by simp; omega]
    exact rToks_next acc hm ht
theorem own_ne {w : World} {B B' n n' z z' : Nat} {e e' : TypeId} {v v' : Value} {xs xs' : List Value} (h : w.ownsRow B e z v n xs) (h' : w.ownsRow B' e' z' v' n' xs') (hne : e ≠ e') : v.ownBlock = none ∨ v.ownBlock ≠ v'.ownBlock := by
  rcases h.2 with ⟨rfl, _⟩ | ⟨g, cap, cur, rfl, _, hg, _⟩
  · exact .inl rfl
  · refine .inr (fun e => ?_)
    rcases h'.2 with ⟨rfl, _⟩ | ⟨g', cap', cur', rfl, _, hg', _⟩
    · simp [Value.ownBlock] at e
    · simp [Value.ownBlock] at e
      subst e
      rw [hg] at hg'
      simp at hg'
      exact hne hg'.2
theorem own_lt_ne {w : World} {B' n' z' : Nat} {e' : TypeId} {v v' : Value} {xs' : List Value} (h' : w.ownsRow B' e' z' v' n' xs') (hlt : ∀ k, v.ownBlock = some k → k < B') : v.ownBlock = none ∨ v.ownBlock ≠ v'.ownBlock := by
  rcases hv : v.ownBlock with _ | k
  · exact .inl rfl
  · refine .inr (fun e => ?_)
    have := hlt k hv
    have := (World.ownsRow.lt h' k e.symm).1
    omega
/-- The reader's three lists: the pieces' tokens, the data, where frames end. -/
structure Lists (w : World) (B : Nat) (ps : List (List Tok)) (data : List UInt8) (ends : List Nat) (vP vD vE : Value) : Prop where
  pieces : ∃ vs : List Value, w.ownsRow B 32 1 vP ps.length vs ∧ ∀ i, i < ps.length → ∃ a c, vs[i]? = some (.slice a (ps.getD i []).length c) ∧ TokRow w B (.slice a (ps.getD i []).length c) (ps.getD i [])
  data : OwnB w B vD data
  ends : w.ownsRow B 3 1 vE ends.length (ends.map fun n : Nat => Value.int .i64 (n : Int))
theorem Lists.grown {w w' : World} {B : Nat} {ps : List (List Tok)} {data : List UInt8} {ends : List Nat} {vP vD vE : Value} {row : Option Nat} (h : Lists w B ps data ends vP vD vE) (hg : w.grownBy w' row) (hr : ∀ k, row = some k → k < B) : Lists w' B ps data ends vP vD vE := by
  have key : ∀ {e : TypeId} {z : Nat} {v : Value} {n : Nat} {xs : List Value}, w.ownsRow B e z v n xs → w'.ownsRow B e z v n xs := fun {e z v n xs} ho => by
    refine World.ownsRow.kept ho hg ?_
    rcases hv : v.ownBlock with _ | k
    · exact .inl rfl
    · refine .inr (fun e => ?_)
      have h1 := (World.ownsRow.lt ho k hv).1
      have h2 := hr k e.symm
      omega
  obtain ⟨vs, h1, h2⟩ := h.pieces
  exact ⟨⟨vs, key h1, fun i hi => by obtain ⟨a, c, g1, g2⟩ := h2 i hi; exact ⟨a, c, g1, key g2⟩⟩, key h.data, key h.ends⟩
theorem Lists.one {w w' : World} {q B : Nat} {ps : List (List Tok)} {data : List UInt8} {ends : List Nat} {vP vD vE : Value} (h : Lists w B ps data ends vP vD vE) (hk : OneKept w w' q) (hq : q < B) : Lists w' B ps data ends vP vD vE :=
  h.grown (row := some q) ⟨hk.os, hk.tape, hk.output, hk.size, fun k hk' hne => hk.heap k hk' (fun e => hne (by rw [e]))⟩ (fun k e => by simp at e; omega)
theorem Lists.below {w w' : World} {B : Nat} {ps : List (List Tok)} {data : List UInt8} {ends : List Nat} {vP vD vE : Value} (h : Lists w B ps data ends vP vD vE) (hb : Below w.heap.size w w') : Lists w' B ps data ends vP vD vE :=
  h.grown (row := none) ⟨hb.os, hb.tape, hb.output, hb.size, fun k hk _ => hb.block k hk⟩ (fun k e => by cases e)
theorem cell_new3' (w : World) (k : Nat) (hk : k = w.heap.size) (x y z : Value) (t : TypeId) (j : Nat) (v : Value) (hj : [x, y, z][j]? = some v) : (w.alloc (.cells #[x, y, z] t)).cell? ((⟨k, 0, none⟩ : Addr).add j) = some v := by
  subst hk; exact cell_new3 w x y z t j v hj
theorem own_after {w w1 : World} {q i B n z : Nat} {e : TypeId} {v x u : Value} {xs : List Value} (ho : w.ownsRow B e z x n xs) (hq : q < B) (hg : w.grownBy w1 v.ownBlock) (hne : x.ownBlock = none ∨ x.ownBlock ≠ v.ownBlock) : (w1.setCell ⟨q, i, none⟩ u).ownsRow B e z x n xs :=
  ownsRow_setCell_below (ho.kept hg hne) hq u
theorem text_after {w w1 : World} {q B n z i : Nat} {e : TypeId} {v u : Value} {xs : List Value} {cs : Array Value} {t : TypeId} (ho : w.ownsRow B e z v n xs) (hq : q < B) (ht : w.heap[q]? = some (.cells cs t (0, 0))) (hg : w.grownBy w1 v.ownBlock) : (w1.setCell ⟨q, i, none⟩ u).heap[q]? = some (.cells (cs.setIfInBounds i u) t (0, 0)) := by
  refine set_block ?_ u
  rw [hg.block q (Array.getElem?_eq_some_iff.1 ht).1 (fun e => by have := (World.ownsRow.lt ho q e.symm).1; omega)]
  exact ht
theorem below_after {w0 w w1 : World} {q B n z i : Nat} {e : TypeId} {v u : Value} {xs : List Value} (hb : Below q w0 w) (ho : w.ownsRow B e z v n xs) (hq : q < B) (hqs : q ≤ w.heap.size) (hg : w.grownBy w1 v.ownBlock) : Below q w0 (w1.setCell ⟨q, i, none⟩ u) :=
  (hb.grown hg hqs (fun k hk => by have := (World.ownsRow.lt ho k hk).1; omega)).setCell (Nat.le_refl _) u
theorem infoToks : (Tryz.prog.info? 32).map (fun i => (i.zero, i.size, i.bytes)) = some (some (.slice none 0 0), 1, 24) := by kernel_rfl
theorem infoInt : (Tryz.prog.info? 3).map (fun i => (i.zero, i.size, i.bytes)) = some (some (.int .i64 0), 1, 8) := by kernel_rfl
/-- The data behind one more piece. -/
theorem data_after {w w1 : World} {q B i0 : Nat} {ps : List (List Tok)} {data more : List UInt8} {ends : List Nat} {vP vD vE v' u : Value} (hq : q < B) (hl : Lists w B ps data ends vP vD vE)
    (hown : w1.ownsRow B 5 1 v' (data.length + more.length) (cellsB data ++ cellsB more)) (hg : w.grownBy w1 vD.ownBlock) : Lists (w1.setCell ⟨q, i0, none⟩ u) B ps (data ++ more) ends vP v' vE := by
  obtain ⟨vs, hp, hrows⟩ := hl.pieces
  refine ⟨⟨vs, own_after hp hq hg (own_ne hp hl.data (by decide)), fun i hi => ?_⟩, ?_, own_after hl.ends hq hg (own_ne hl.ends hl.data (by decide))⟩
  · obtain ⟨a, c, g1, g2⟩ := hrows i hi
    exact ⟨a, c, g1, own_after g2 hq hg (own_ne g2 hl.data (by decide))⟩
  · unfold OwnB
    rw [List.length_append, show cellsB (data ++ more) = cellsB data ++ cellsB more by simp [cellsB]]
    exact ownsRow_setCell_below hown hq u
/-- The ends behind one more. -/
theorem ends_after {w w1 : World} {q B i0 n : Nat} {ps : List (List Tok)} {data : List UInt8} {ends : List Nat} {vP vD vE v' u : Value} (hq : q < B) (hl : Lists w B ps data ends vP vD vE)
    (hown : w1.ownsRow B 3 1 v' (ends.length + 1) ((ends.map fun n : Nat => Value.int .i64 (n : Int)) ++ [.int .i64 (n : Int)])) (hg : w.grownBy w1 vE.ownBlock) : Lists (w1.setCell ⟨q, i0, none⟩ u) B ps data (ends ++ [n]) vP vD v' := by
  obtain ⟨vs, hp, hrows⟩ := hl.pieces
  refine ⟨⟨vs, own_after hp hq hg (own_ne hp hl.ends (by decide)), fun i hi => ?_⟩, own_after hl.data hq hg (own_ne hl.data hl.ends (by decide)), ?_⟩
  · obtain ⟨a, c, g1, g2⟩ := hrows i hi
    exact ⟨a, c, g1, own_after g2 hq hg (own_ne g2 hl.ends (by decide))⟩
  · rw [List.length_append, List.map_append]
    exact ownsRow_setCell_below hown hq u
/-- The pieces behind one more. -/
theorem pieces_after {w w1 : World} {q B i0 : Nat} {ps : List (List Tok)} {data : List UInt8} {ends : List Nat} {vP vD vE v' u : Value} {a : Option Addr} {c : Nat} {ts : List Tok} {vs : List Value} (hq : q < B)
    (hp : w.ownsRow B 32 1 vP ps.length vs) (hrows : ∀ i, i < ps.length → ∃ a c, vs[i]? = some (.slice a (ps.getD i []).length c) ∧ TokRow w B (.slice a (ps.getD i []).length c) (ps.getD i []))
    (hd : OwnB w B vD data) (he : w.ownsRow B 3 1 vE ends.length (ends.map fun n : Nat => Value.int .i64 (n : Int))) (hts : TokRow w B (.slice a ts.length c) ts)
    (hown : w1.ownsRow B 32 1 v' (ps.length + 1) (vs ++ [.slice a ts.length c])) (hg : w.grownBy w1 vP.ownBlock) : Lists (w1.setCell ⟨q, i0, none⟩ u) B (ps ++ [ts]) data ends v' vD vE := by
  have hvl : vs.length = ps.length := by have := hp.1; omega
  have hne : 42 ≠ 32 := by decide
  refine ⟨⟨vs ++ [.slice a ts.length c], ?_, fun i hi => ?_⟩, ?_, ?_⟩
  · rw [List.length_append]; exact ownsRow_setCell_below hown hq u
  · simp only [List.length_append, List.length_cons, List.length_nil] at hi
    rcases Nat.lt_or_ge i ps.length with h | h
    · obtain ⟨a', c', g1, g2⟩ := hrows i h
      have e : (ps ++ [ts]).getD i [] = ps.getD i [] := by simp [List.getD, List.getElem?_append_left h]
      rw [e]
      exact ⟨a', c', by rw [List.getElem?_append_left (by omega)]; exact g1, own_after g2 hq hg (own_ne g2 hp hne)⟩
    · have hi' : i = ps.length := by omega
      subst hi'
      have e : (ps ++ [ts]).getD ps.length [] = ts := by simp [List.getD]
      rw [e]
      exact ⟨a, c, by rw [← hvl]; simp, own_after hts hq hg (own_ne hts hp hne)⟩
  · exact own_after hd hq hg (own_ne hd hp (by decide))
  · exact own_after he hq hg (own_ne he hp (by decide))
theorem rFrame_toks {n : Nat} {R : List Bool} {c : Int} (h : rToks n n 0 R = .error c) : rFrame n R = .error c := by simp only [rFrame, h]
theorem rFrame_pad {n m : Nat} {L R : List Bool} {ts : List Tok} (h : rToks n n 0 R = .ok (ts, L.drop m)) (hp : padB (L.drop m) = false) : rFrame n R = .error 7 := by simp only [rFrame, h, hp, if_true]
theorem drop_byteEnd (L : List Bool) (m : Nat) : (L.drop m).drop ((L.drop m).length % 8) = L.drop (byteEnd L m) := by
  rw [List.drop_drop, List.length_drop]; rfl
theorem rFrame_short {n m : Nat} {L R : List Bool} {ts : List Tok} (h : rToks n n 0 R = .ok (ts, L.drop m)) (hp : padB (L.drop m) = true) (hs : L.length < byteEnd L m + 16) : rFrame n R = .error 4 := by
  simp only [rFrame, h, hp, drop_byteEnd]
  rw [if_neg (by simp), if_pos (by rw [List.length_drop]; omega)]
theorem rFrame_sum {n m : Nat} {L R : List Bool} {ts : List Tok} {out : List UInt8} (h : rToks n n 0 R = .ok (ts, L.drop m)) (hp : padB (L.drop m) = true) (hs : byteEnd L m + 16 ≤ L.length) (hex : Tok.expand [] ts = some out)
    (hne : (valB ((L.drop (byteEnd L m)).take 8) : Int) + 256 * (valB ((L.drop (byteEnd L m + 8)).take 8) : Int) ≠ Plain.total out) : rFrame n R = .error 8 := by
  simp only [rFrame, h, hp, drop_byteEnd]
  rw [if_neg (by simp), if_neg (by rw [List.length_drop]; omega), if_pos]
  rw [List.drop_drop, hex]; exact hne
theorem rFrame_ok {n m : Nat} {L R : List Bool} {ts : List Tok} {out : List UInt8} (h : rToks n n 0 R = .ok (ts, L.drop m)) (hp : padB (L.drop m) = true) (hs : byteEnd L m + 16 ≤ L.length) (hex : Tok.expand [] ts = some out)
    (heq : (valB ((L.drop (byteEnd L m)).take 8) : Int) + 256 * (valB ((L.drop (byteEnd L m + 8)).take 8) : Int) = Plain.total out) : rFrame n R = .ok (ts, L.drop (byteEnd L m + 8 + 8)) := by
  simp only [rFrame, h, hp, drop_byteEnd]
  rw [if_neg (by simp), if_neg (by rw [List.length_drop]; omega), if_neg]
  · rw [List.drop_drop]
  · rw [List.drop_drop, hex]; exact fun hne => hne heq
/-- Bytes that are wanted at the beginning of some bits. -/
def rMagic : List Nat → List Bool → Except Int (List Bool)
  | [], R => .ok R
  | b :: bs, R => if R.length < 8 then .error 4 else if valB (R.take 8) = b then rMagic bs (R.drop 8) else .error 3
theorem magic_at (k : Nat) (b : Nat) (bs : List Nat) (hk : ([80, 90, 49] : List Nat).drop k = b :: bs) : ([80, 90, 49] : List Nat).drop (k + 1) = bs := by
  rw [← List.drop_drop, hk]; rfl
/-- The error, the pieces' tokens, the data, where frames end. -/
def rMain (L : List Bool) : Nat → List (List Tok) → List UInt8 → List Nat → List Bool → Int × List (List Tok) × List UInt8 × List Nat
  | 0, ps, data, ends, _ => (4, ps, data, ends)
  | f + 1, ps, data, ends, R =>
    match rNum 5 0 R with
    | .error c => (c, ps, data, ends)
    | .ok (v, R1) =>
      if v = 1 then ((if padB R1 = false then 7 else if 0 < (R1.drop (R1.length % 8)).length then 9 else 0), ps, data, ends)
      else if 64 < v - 1 ∨ data.length ≠ 64 * ps.length then (5, ps, data, ends)
      else match rFrame (v - 1) R1 with
        | .error c => (c, ps, data, ends)
        | .ok (ts, R2) => rMain L f (ps ++ [ts]) (data ++ made ts) (ends ++ [(L.length - R2.length) / 8]) R2
/-- All bits of some bytes. -/
def bitsIn (s : List UInt8) : List Bool := s.flatMap fun b => bin b.toNat 8
theorem bitsIn_length : ∀ s, (bitsIn s).length = 8 * s.length
  | [] => rfl
  | b :: s => by
    have := bitsIn_length s
    simp only [bitsIn, List.flatMap_cons, List.length_append, bin_length, List.length_cons] at *
    omega
theorem bitsIn_snoc (s : List UInt8) (b : UInt8) : bitsIn (s ++ [b]) = bitsIn s ++ bin b.toNat 8 := by simp [bitsIn]
/-- What is read of some bytes. -/
def rRead (s : List UInt8) : Int × List (List Tok) × List UInt8 × List Nat :=
  if 4096 < s.length then (1, [], [], [])
  else match rMagic [80, 90, 49] (bitsIn s) with
    | .error c => (c, [], [], [])
    | .ok R => rMain (bitsIn s) ((bitsIn s).length + 1) [] [] [] R
theorem rMain_num {L R : List Bool} {f : Nat} {ps : List (List Tok)} {data : List UInt8} {ends : List Nat} {c : Int} (h : rNum 5 0 R = .error c) : rMain L (f + 1) ps data ends R = (c, ps, data, ends) := by simp only [rMain, h]
theorem rMain_pad {L : List Bool} {m f : Nat} {R : List Bool} {ps : List (List Tok)} {data : List UInt8} {ends : List Nat} (h : rNum 5 0 R = .ok (1, L.drop m)) (hp : padB (L.drop m) = false) : rMain L (f + 1) ps data ends R = (7, ps, data, ends) := by simp only [rMain, h, hp, if_true]
theorem rMain_end {L : List Bool} {m f : Nat} {R : List Bool} {ps : List (List Tok)} {data : List UInt8} {ends : List Nat} (h : rNum 5 0 R = .ok (1, L.drop m)) (hp : padB (L.drop m) = true) : rMain L (f + 1) ps data ends R = ((if byteEnd L m < L.length then 9 else 0), ps, data, ends) := by
  simp only [rMain, h, hp, drop_byteEnd, if_true]
  rw [if_neg (by simp), List.length_drop]
  by_cases hlt : byteEnd L m < L.length
  · rw [if_pos hlt, if_pos (by omega)]
  · rw [if_neg hlt, if_neg (by omega)]
theorem rMain_long {L : List Bool} {m f v : Nat} {R : List Bool} {ps : List (List Tok)} {data : List UInt8} {ends : List Nat} (h : rNum 5 0 R = .ok (v, L.drop m)) (hv : v ≠ 1) (hb : 64 < v - 1 ∨ data.length ≠ 64 * ps.length) : rMain L (f + 1) ps data ends R = (5, ps, data, ends) := by
  simp only [rMain, h, if_neg hv, if_pos hb]
theorem rMain_err {L : List Bool} {m f v : Nat} {R : List Bool} {ps : List (List Tok)} {data : List UInt8} {ends : List Nat} {c : Int} (h : rNum 5 0 R = .ok (v, L.drop m)) (hv : v ≠ 1) (hb : ¬ (64 < v - 1 ∨ data.length ≠ 64 * ps.length)) (hf : rFrame (v - 1) (L.drop m) = .error c) : rMain L (f + 1) ps data ends R = (c, ps, data, ends) := by
  simp only [rMain, h, if_neg hv, if_neg hb, hf]
theorem rMain_next {L : List Bool} {m m' f v : Nat} {R : List Bool} {ps : List (List Tok)} {data : List UInt8} {ends : List Nat} {ts : List Tok} (h : rNum 5 0 R = .ok (v, L.drop m)) (hv : v ≠ 1) (hb : ¬ (64 < v - 1 ∨ data.length ≠ 64 * ps.length)) (hf : rFrame (v - 1) (L.drop m) = .ok (ts, L.drop m')) (hm : m' ≤ L.length) :
    rMain L (f + 1) ps data ends R = rMain L f (ps ++ [ts]) (data ++ made ts) (ends ++ [m' / 8]) (L.drop m') := by
  simp only [rMain, h, if_neg hv, if_neg hb, hf]
  rw [List.length_drop, show L.length - (L.length - m') = m' by omega]
theorem lists_nil (w : World) (B : Nat) : Lists w B [] [] [] (.slice none 0 0) (.slice none 0 0) (.slice none 0 0) :=
  ⟨⟨[], World.ownsRow_nil _ _ _ _, fun i hi => by simp at hi⟩, World.ownsRow_nil _ _ _ _, World.ownsRow_nil _ _ _ _⟩
theorem Lists.drewN {w : World} {B : Nat} {ps : List (List Tok)} {data : List UInt8} {ends : List Nat} {vP vD vE : Value} (h : Lists w B ps data ends vP vD vE) (n : Nat) : Lists (w.drewN n) B ps data ends vP vD vE :=
  h.below (below_drewN (Below.refl _ _) n)
theorem ToksAt.drewN {w : World} {a : Option Addr} {ts : List Tok} (h : ToksAt w a ts) (n : Nat) : ToksAt (w.drewN n) a ts := h.below (below_drewN (Below.refl _ _) n)
/-- What Decompress answers of bytes in memory. -/
def DecSaid : Prop := ∀ (a : Option Addr) (l : List UInt8) (cap : Nat) (w : World), l.length ≤ 9223372036854775807 → BytesAt w a l →
  Calls Tryz.prog 51 #[.slice a l.length cap] w fun e w' => Below w.heap.size w w' ∧ ∃ v out, e = .returned (.tuple #[v, .int .i64 (rRead l).1]) ∧ OwnB w' w.heap.size v out ∧ ((rRead l).1 = 0 → out = (rRead l).2.2.1) ∧ ((rRead l).1 ≠ 0 → out = [])
/-- What Unpack answers of bytes in memory. -/
def UnpSaid : Prop := ∀ (a : Option Addr) (l : List UInt8) (cap : Nat) (w : World), l.length ≤ 9223372036854775807 → BytesAt w a l →
  Calls Tryz.prog 49 #[.slice a l.length cap] w fun e w' => Below w.heap.size w w' ∧ ∃ pa ps c, e = .returned (.tuple #[.slice pa ps.length c, .int .i64 (rRead l).1]) ∧ PiecesAt w' pa ps ∧ ps.length ≤ 9223372036854775807 ∧ ((rRead l).1 = 0 → ps = (rRead l).2.1) ∧ ((rRead l).1 ≠ 0 → ps = [])
theorem BytesAt.below {w w' : World} {a : Option Addr} {l : List UInt8} (h : BytesAt w a l) (hb : Below w.heap.size w w') : BytesAt w' a l := by
  rcases h with h | ⟨b, off, h1, h⟩
  · exact .inl h
  · rcases Nat.eq_zero_or_pos l.length with h0 | h0
    · exact .inl (List.eq_nil_of_length_eq_zero h0)
    · have hlt : b < w.heap.size := World.block_lt_of_cell? w _ (h 0 h0)
      exact .inr ⟨b, off, h1, fun i hi => by rw [hb.cell (p := ⟨b, _, none⟩) hlt]; exact h i hi⟩
theorem own_max {w : World} {B n z : Nat} {e : TypeId} {v : Value} {xs : List Value} (h : w.ownsRow B e z v n xs) : n ≤ 9223372036854775807 := by
  rcases h.2 with ⟨_, hn⟩ | ⟨g, c, cur, _, _, _, h1, h2, _⟩
  · omega
  · unfold maxLen at h2; omega
theorem Lists.at {w : World} {B : Nat} {ps : List (List Tok)} {data : List UInt8} {ends : List Nat} {vP vD vE : Value} (h : Lists w B ps data ends vP vD vE) : ∃ pa c, vP = .slice pa ps.length c ∧ ps.length ≤ 9223372036854775807 ∧ PiecesAt w pa ps := by
  obtain ⟨vs, ho, hr⟩ := h.pieces
  rcases ho.2 with ⟨h1, hn⟩ | ⟨g, c, cur, h1, hb, hg, _⟩
  · exact ⟨none, 0, by rw [h1, hn], by omega, .inl (List.eq_nil_of_length_eq_zero hn)⟩
  · refine ⟨_, c, h1, own_max ho, .inr ⟨g, 0, rfl, (Array.getElem?_eq_some_iff.1 hg).1, fun i hi => ?_⟩⟩
    obtain ⟨a, c', g1, g2⟩ := hr i hi
    have hadd : (⟨g, 0, none⟩ : Addr).add i = ⟨g, i, none⟩ := by unfold Addr.add; split <;> simp_all
    have hc := World.ownsRow.cells ho (g := g) (by rw [h1]; rfl) i _ g1
    rw [hadd] at hc
    exact ⟨a, c', by rw [Nat.zero_add]; exact hc, own_max g2, TokRow.toks g2⟩
theorem BytesAt.new (s : ByteArray) (w : World) (cap : Nat) (mk : Nat × Nat) : BytesAt ((w.alloc (.cells (bytesRow s cap) 5 mk)).drew) (some ⟨w.heap.size, 0, none⟩) s.data.toList := by
  have HL : s.data.toList.length = s.size := rfl
  refine .inr ⟨_, _, rfl, fun i hi => ?_⟩
  have hi' : i < s.size := by rw [← HL]; exact hi
  show (w.alloc _).cell? _ = _
  rw [World.cell?_alloc_mark, Nat.zero_add]
  simp [bytesRow, Array.getElem?_append, hi']
theorem OwnB.le {w : World} {B B' : Nat} {v : Value} {out : List UInt8} (h : OwnB w B v out) (hb : B' ≤ B) : OwnB w B' v out :=
  ⟨h.1, h.2.elim Or.inl (fun ⟨g, cap, cur, hv, hg, r⟩ => Or.inr ⟨g, cap, cur, hv, Nat.le_trans hb hg, r⟩)⟩
theorem valB_256 (l : List Bool) (h : l.length ≤ 8) : valB l < 256 :=
  Nat.lt_of_lt_of_le (valB_lt l) (Nat.pow_le_pow_right (n := 2) (by omega) h)
theorem okAt_made {n k : Nat} {ts : List Tok} {out : List UInt8} (he : Tok.expand [] ts = some out) (h : out.length = 64 ∨ k + 1 = n ∧ 1 ≤ out.length) : okAt n k ts = true := by
  have hm : made ts = out := by simp [made, he]
  have ho := Tok.okB_some he
  unfold okAt
  rw [hm, ho]
  simp
  omega
theorem TokRow.below {w w' : World} {B : Nat} {v : Value} {ts : List Tok} (h : TokRow w B v ts) (hb : Below w.heap.size w w') : TokRow w' B v ts :=
  World.ownsRow.kept h (row := none) ⟨hb.os, hb.tape, hb.output, hb.size, fun k hk _ => hb.block k hk⟩ (by cases hv : v.ownBlock <;> simp)
theorem dr_append {w w2 W w3 : World} {v : Value} {acc : List Tok} {l d x : Int} {o2 : Obj} (hrow : TokRow w2 w.heap.size v acc) (hb : Below w.heap.size w w2) (hW : Below w2.heap.size w2 W) (hx : Box W w2.heap.size l d x) (hz : W.heap.size = w2.heap.size + 1) (hg : (W.alloc o2).grownBy w3 v.ownBlock) :
    Below w.heap.size w w3 ∧ Box w3 w2.heap.size l d x ∧ w2.heap.size < w3.heap.size := by
  have hs := hb.size
  have hrow' : TokRow (W.alloc o2) w.heap.size v acc := TokRow.alloc (TokRow.below hrow hW) o2
  refine ⟨?_, ?_, ?_⟩
  · exact ((hb.trans (hW.mono hs)).alloc (by omega) o2).grown hg (by simp; omega) (fun k hk => (World.ownsRow.lt hrow' k hk).1)
  · have hx' := Box.alloc hx o2
    unfold Box at *
    rw [hg.block _ (by simp; omega) (fun e => by have := (World.ownsRow.lt hrow _ e.symm).2; omega)]
    exact hx'
  · have := hg.size
    simp at this
    omega
theorem row_form {w : World} {B n z : Nat} {e : TypeId} {v : Value} {xs : List Value} (h : w.ownsRow B e z v n xs) : ∃ ao cp, v = .slice ao n cp := by
  rcases h.2 with ⟨rfl, hn⟩ | ⟨g, cap, cur, rfl, _⟩
  · exact ⟨none, 0, by rw [hn]⟩
  · exact ⟨_, _, rfl⟩
end Go.Proofs.YtnpnaglgllcpfaaGreat

/- What the program's Reader does to memory: a bit, some digits, a byte. -/
namespace Go.Proofs.YtnpnaglgllcpfaaGreat
set_option maxRecDepth 100000
open Go.RowKit

/-- The Reader in block q: its bytes l, so many of their bits read. -/
structure RdrAt (w : World) (q : Nat) (a : Option Addr) (l : List UInt8) (cap n : Nat) : Prop where
  block : w.heap[q]? = some (.cells #[.slice a l.length cap, .int .i64 n] 168 (0, 0))
  bytes : BytesAt w a l
  apart : 0 < l.length → ∀ b off, a = some ⟨b, off, none⟩ → b ≠ q

theorem cell_heap {w w' : World} {b o : Nat} (h : w'.heap[b]? = w.heap[b]?) : w'.cell? ⟨b, o, none⟩ = w.cell? ⟨b, o, none⟩ := by
  simp [World.cell?, h]
theorem bytesAt_below {w w' : World} {a : Option Addr} {l : List UInt8} (h : BytesAt w a l) (hb : Below w.heap.size w w') : BytesAt w' a l := by
  rcases h with h | ⟨b, off, h1, h⟩
  · exact .inl h
  · rcases Nat.eq_zero_or_pos l.length with h0 | h0
    · exact .inl (List.eq_nil_of_length_eq_zero h0)
    · have hlt : b < w.heap.size := World.block_lt_of_cell? w _ (h 0 h0)
      exact .inr ⟨b, off, h1, fun i hi => by rw [hb.cell (p := ⟨b, _, none⟩) hlt]; exact h i hi⟩
theorem RdrAt.kept {w w' : World} {q : Nat} {a : Option Addr} {l : List UInt8} {cap n m : Nat} (h : RdrAt w q a l cap n) (hk : OneKept w w' q) (hb : w'.heap[q]? = some (.cells #[.slice a l.length cap, .int .i64 m] 168 (0, 0))) : RdrAt w' q a l cap m := by
  refine ⟨hb, ?_, h.apart⟩
  rcases h.bytes with h1 | ⟨b, off, h1, h2⟩
  · exact .inl h1
  · refine .inr ⟨b, off, h1, fun i hi => ?_⟩
    have hc := h2 i hi
    have hlt : b < w.heap.size := World.block_lt_of_cell? w _ hc
    rw [cell_heap (hk.heap b hlt (h.apart (by omega) b off h1))]
    exact hc
theorem RdrAt.lt {w : World} {q : Nat} {a : Option Addr} {l : List UInt8} {cap n : Nat} (h : RdrAt w q a l cap n) : q < w.heap.size := (Array.getElem?_eq_some_iff.1 h.block).1
theorem RdrAt.below {w w' : World} {q : Nat} {a : Option Addr} {l : List UInt8} {cap n : Nat} (h : RdrAt w q a l cap n) (hb : Below w.heap.size w w') : RdrAt w' q a l cap n :=
  ⟨by rw [hb.block q h.lt]; exact h.block, bytesAt_below h.bytes hb, h.apart⟩
theorem RdrAt.cell {w : World} {q : Nat} {a : Option Addr} {l : List UInt8} {cap n : Nat} (h : RdrAt w q a l cap n) :
    w.cell? ⟨q, 0, none⟩ = some (.slice a l.length cap) ∧ w.cell? ⟨q, 1, none⟩ = some (.int .i64 n) ∧ w.frozen? ⟨q, 1, none⟩ = false := by
  have := h.block
  simp [World.cell?, World.frozen?, this]

/-- A bit of some bytes. -/
theorem bin_get (v : Nat) : ∀ (k i : Nat) (_ : i < k) (h' : i < (bin v k).length), ((bin v k)[i]'h').toNat = v / 2 ^ (k - 1 - i) % 2
  | k + 1, 0, _, _ => by
    simp only [bin, List.getElem_cons_zero]
    have h2 : v / 2 ^ k % 2 = 0 ∨ v / 2 ^ k % 2 = 1 := by omega
    rcases h2 with h2 | h2 <;> simp [h2]
  | k + 1, i + 1, h, h' => by
    simp only [bin, List.getElem_cons_succ]
    have := bin_get v k i (by omega) (by rw [bin_length]; omega)
    rw [this, show k + 1 - 1 - (i + 1) = k - 1 - i by omega]
theorem bitsIn_get : ∀ (l : List UInt8) (n : Nat) (h : n < (bitsIn l).length), ((bitsIn l)[n]'h).toNat = (l.getD (n / 8) 0).toNat / 2 ^ (7 - n % 8) % 2
  | [], n, h => by simp [bitsIn] at h
  | b :: l, n, h => by
    have e : bitsIn (b :: l) = bin b.toNat 8 ++ bitsIn l := by simp [bitsIn]
    have hb : (bin b.toNat 8).length = 8 := bin_length _ _
    rcases Nat.lt_or_ge n 8 with h8 | h8
    · have e1 : (bitsIn (b :: l))[n]'h = (bin b.toNat 8)[n]'(by omega) := by
        simp only [e]
        exact List.getElem_append_left (by omega)
      rw [e1, bin_get b.toNat 8 n h8, show n / 8 = 0 by omega, show n % 8 = n by omega]
      rfl
    · have hl := bitsIn_length (b :: l)
      have hl' := bitsIn_length l
      simp only [List.length_cons] at hl
      have e1 : (bitsIn (b :: l))[n]'h = (bitsIn l)[n - 8]'(by omega) := by
        simp only [e]
        rw [List.getElem_append_right (by omega)]
        simp only [hb]
      rw [e1, bitsIn_get l (n - 8), show (n - 8) / 8 = n / 8 - 1 by omega, show (n - 8) % 8 = n % 8 by omega]
      obtain ⟨k, hk⟩ : ∃ k, n / 8 = k + 1 := ⟨n / 8 - 1, by omega⟩
      rw [hk]
      rfl

theorem and_one (x : Nat) : bits .and .i64 (x : Int) 1 = ((x % 2 : Nat) : Int) := by
  have e : (BitVec.ofInt 64 (x : Int) &&& BitVec.ofInt 64 1).toNat = x % 2 := by
    rw [BitVec.toNat_and, BitVec.toNat_ofInt, show (BitVec.ofInt 64 1).toNat = 2 ^ 1 - 1 by decide, Nat.and_two_pow_sub_one_eq_mod]
    omega
  show IntKind.i64.wrap ((BitVec.ofInt 64 (x : Int) &&& BitVec.ofInt 64 1).toNat : Nat) = _
  rw [e, IntKind.wrap_i64]
  omega

theorem bitR_short (q : Nat) (a : Option Addr) (l : List UInt8) (cap n : Nat) (w : World) (h : RdrAt w q a l cap n) (hl : l.length ≤ 4096) (hn : n ≤ 100000) (hs : 8 * l.length ≤ n) :
    Calls Tryz.prog 129 #[.pointer (some ⟨q, 0, none⟩)] w fun r w' => r = .returned (.tuple #[.int .i64 0, .int .i64 4]) ∧ w' = w := by
  obtain ⟨c0, c1, f1⟩ := h.cell
  have hd : (l.length : Int) ≤ (n : Int) / 8 := by omega
  clear h
  go_enter Tryz.func129, Tryz.ntmps129
  go_wp2
  go_ret2
  exact ⟨rfl, rfl⟩

set_option maxHeartbeats 1000000 in
theorem bitR_ok (q : Nat) (a : Option Addr) (l : List UInt8) (cap n : Nat) (w : World) (h : RdrAt w q a l cap n) (hl : l.length ≤ 4096) (hs : n < (bitsIn l).length) :
    Calls Tryz.prog 129 #[.pointer (some ⟨q, 0, none⟩)] w fun r w' => r = .returned (.tuple #[.int .i64 ((bitsIn l)[n].toNat : Int), .int .i64 0]) ∧ RdrAt w' q a l cap (n + 1) ∧ OneKept w w' q := by
  obtain ⟨c0, c1, f1⟩ := h.cell
  have hlen := bitsIn_length l
  have HV : Hid ((bitsIn l)[n].toNat = (l.getD (n / 8) 0).toNat / 2 ^ (7 - n % 8) % 2) := bitsIn_get l n hs
  have hn8 : n / 8 < l.length := by omega
  have hnb : n < 40000 := by omega
  have hix : 0 ≤ (n : Int) / 8 ∧ (n : Int) / 8 < (l.length : Int) := by omega
  have hlt : (n : Int) / 8 < (l.length : Int) := hix.2
  obtain ⟨b, off, ha, hcell⟩ : ∃ b off, a = some ⟨b, off, none⟩ ∧ ∀ i, i < l.length → w.cell? ⟨b, off + i, none⟩ = some (.int .u8 (l.getD i 0).toNat) := by
    rcases h.bytes with h | h
    · rw [h] at hn8; simp at hn8
    · exact h
  have hbq : b ≠ q := h.apart (by omega) b off ha
  subst ha
  have hc := hcell (n / 8) hn8
  have HR : Hid (RdrAt w q _ l cap n) := h
  have hcn : (l.getD (n / 8) 0).toNat < 256 := (l.getD (n / 8) 0).toNat_lt
  generalize l.getD (n / 8) 0 = c at *
  generalize (bitsIn l)[n].toNat = y at *
  clear hcell h hlen hs
  go_enter Tryz.func129, Tryz.ntmps129
  go_wp2
  go_ret2
  refine ⟨ret_two ?_ rfl, ?_, (OneKept.refl _ _).set _⟩
  · have e := and_one (c.toNat / 2 ^ (7 - n % 8))
    rw [HV.out, ← e]
    simp
  · refine HR.out.kept ((OneKept.refl _ _).set _) ?_
    rw [set_block HR.out.block]
    simp
end Go.Proofs.YtnpnaglgllcpfaaGreat
