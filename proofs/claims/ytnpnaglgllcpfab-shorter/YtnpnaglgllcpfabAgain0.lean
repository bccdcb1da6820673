/-
  The law Again, out of what Decompress and Unpack answer: plain facts first.
-/
import Derived.Test.YtnpnaglgllcpfabKp3
import Derived.Test.YtnpnaglgllcpfabRdA
import Derived.Test.YtnpnaglgllcpfabRound2
namespace Go.Proofs.Ytnpnaglgllcpfab
set_option maxRecDepth 100000
open Go.RowKit

/-- A list of pieces' tokens that the call owns. -/
def PR (w : World) (B : Nat) (v : Value) (ps : List (List Tok)) : Prop := Lists w B ps [] [] v (.slice none 0 0) (.slice none 0 0)
theorem PR.nil (w : World) (B : Nat) : PR w B (.slice none 0 0) [] :=
  ⟨⟨[], World.ownsRow_nil _ _ _ _, fun i hi => by simp at hi⟩, World.ownsRow_nil _ _ _ _, World.ownsRow_nil _ _ _ _⟩
theorem PR.below {w w' : World} {B : Nat} {v : Value} {ps : List (List Tok)} (h : PR w B v ps) (hb : Below w.heap.size w w') : PR w' B v ps := Lists.below h hb
theorem PR.at {w : World} {B : Nat} {v : Value} {ps : List (List Tok)} (h : PR w B v ps) : ∃ pa c, v = .slice pa ps.length c ∧ ps.length ≤ 9223372036854775807 ∧ PiecesAt w pa ps := Lists.at h
/-- One piece more. -/
theorem pr_snoc {w w1 : World} {B : Nat} {ps : List (List Tok)} {vP v' : Value} {a : Option Addr} {c : Nat} {ts : List Tok} {vs : List Value} {o : Obj}
    (hp : w.ownsRow B 34 1 vP ps.length vs) (hrows : ∀ i, i < ps.length → ∃ a c, vs[i]? = some (.slice a (ps.getD i []).length c) ∧ TokRow w B (.slice a (ps.getD i []).length c) (ps.getD i []))
    (hts : TokRow w B (.slice a ts.length c) ts)
    (hown : w1.ownsRow B 34 1 v' (ps.length + 1) (vs ++ [.slice a ts.length c])) (hg : (w.alloc o).grownBy w1 vP.ownBlock) : PR w1 B v' (ps ++ [ts]) := by
  have hvl : vs.length = ps.length := by have := hp.1; omega
  have hne : 60 ≠ 34 := by decide
  refine ⟨⟨vs ++ [.slice a ts.length c], ?_, fun i hi => ?_⟩, World.ownsRow_nil _ _ _ _, World.ownsRow_nil _ _ _ _⟩
  · rw [List.length_append]; exact hown
  · simp only [List.length_append, List.length_cons, List.length_nil] at hi
    rcases Nat.lt_or_ge i ps.length with h | h
    · obtain ⟨a', c', g1, g2⟩ := hrows i h
      have e : (ps ++ [ts]).getD i [] = ps.getD i [] := by simp [List.getD, List.getElem?_append_left h]
      rw [e]
      exact ⟨a', c', by rw [List.getElem?_append_left (by omega)]; exact g1, World.ownsRow.kept (World.ownsRow.alloc g2 o) hg (own_ne g2 hp hne)⟩
    · have hi' : i = ps.length := by omega
      subst hi'
      have e : (ps ++ [ts]).getD ps.length [] = ts := by simp [List.getD]
      rw [e]
      exact ⟨a, c, by rw [← hvl]; simp, World.ownsRow.kept (World.ownsRow.alloc hts o) hg (own_ne hts hp hne)⟩
theorem tokrow_le {w : World} {B B' : Nat} {v : Value} {ts : List Tok} (h : TokRow w B v ts) (hb : B' ≤ B) : TokRow w B' v ts :=
  ⟨h.1, h.2.elim Or.inl (fun ⟨g, cap, cur, hv, hg, r⟩ => Or.inr ⟨g, cap, cur, hv, Nat.le_trans hb hg, r⟩)⟩
/-- What all pieces make, as a string. -/
def wantOf (ps : List (List Tok)) : ByteArray := ⟨(ps.flatMap made).toArray⟩
theorem wantOf_snoc {ps : List (List Tok)} {ts : List Tok} {out : List UInt8} (he : Tok.expand [] ts = some out) : wantOf (ps ++ [ts]) = wantOf ps ++ ⟨out.toArray⟩ := by
  have hm : made ts = out := by simp [made, he]
  apply ByteArray.ext
  simp [wantOf, hm]
theorem wantOf_size (ps : List (List Tok)) : (wantOf ps).size = (ps.flatMap made).length := by simp [wantOf, ByteArray.size]
theorem wantOf_more {ps : List (List Tok)} {ts : List Tok} {out : List UInt8} (he : Tok.expand [] ts = some out) : (wantOf (ps ++ [ts])).size = (wantOf ps).size + out.length := by
  have hm : made ts = out := by simp [made, he]
  rw [wantOf_size, wantOf_size]
  simp [hm]
theorem okAt_snoc {N : Nat} {ps : List (List Tok)} {ts : List Tok} (h : ∀ i, i < ps.length → okAt N i (ps.getD i []) = true) (h' : okAt N ps.length ts = true) : ∀ i, i < ps.length + 1 → okAt N i ((ps ++ [ts]).getD i []) = true := fun i hi => by
  rcases Nat.lt_or_ge i ps.length with h1 | h1
  · have e : (ps ++ [ts]).getD i [] = ps.getD i [] := by simp [List.getD, List.getElem?_append_left h1]
    rw [e]; exact h i h1
  · have hi' : i = ps.length := by omega
    subst hi'
    have e : (ps ++ [ts]).getD ps.length [] = ts := by simp [List.getD]
    rw [e]; exact h'
/-- What Pack writes of these pieces is read again. -/
theorem packed_read {n : Nat} {ps : List (List Tok)} (hn : n < 4) (hl : ps.length = n + 1) (hok : ∀ i, i < ps.length → okAt (n + 1) i (ps.getD i []) = true) :
    (∀ i, i < ps.length → okAt ps.length i (ps.getD i []) = true) ∧ (toBytes (magicBits ++ frames ps ps.length ++ endBits)).length ≤ 4096 ∧ (rRead (toBytes (magicBits ++ frames ps ps.length ++ endBits))).1 = 0 ∧ (rRead (toBytes (magicBits ++ frames ps ps.length ++ endBits))).2.1 = ps ∧ (rRead (toBytes (magicBits ++ frames ps ps.length ++ endBits))).2.2.1 = ps.flatMap made := by
  rw [← hl] at hok
  have hf := frames_short ps ps.length (Nat.le_refl _) hok
  have hlen : (streamBits ps).length ≤ 8432 := by
    unfold streamBits
    rw [List.length_append, List.length_append, endBits_length, magic_length]
    omega
  obtain ⟨en, hen⟩ := rRead_stream ps hok (by omega)
  have hb := toBytes_length (streamBits ps)
  unfold streamBits at hen hb hlen
  refine ⟨hok, ?_, ?_, ?_, ?_⟩
  · rw [hb]; omega
  all_goals rw [hen]
end Go.Proofs.Ytnpnaglgllcpfab
