/-
  What the document's reader does to memory: a frame's tokens.
-/
import Derived.Test.YtnncabpfalcaaaaRdPlain
import Derived.Deep.AppendLies
namespace Go.Proofs.Ytnncabpfalcaaaa
set_option maxRecDepth 100000
open Go.RowKit

def cellsT (ts : List Tok) : List Value := ts.flatMap fun t => [.int .i64 t.len, .int .i64 t.dist, .int .i64 t.byte]
theorem cellsT_snoc (ts : List Tok) (t : Tok) : cellsT (ts ++ [t]) = cellsT ts ++ [.int .i64 t.len, .int .i64 t.dist, .int .i64 t.byte] := by simp [cellsT]
theorem cellsT_get : ∀ (ts : List Tok) (i : Nat) (h : i < ts.length), (cellsT ts)[i * 3]? = some (.int .i64 ts[i].len) ∧ (cellsT ts)[i * 3 + 1]? = some (.int .i64 ts[i].dist) ∧ (cellsT ts)[i * 3 + 2]? = some (.int .i64 ts[i].byte)
  | [], i, h => by simp at h
  | t :: ts, 0, _ => by simp [cellsT]
  | t :: ts, i + 1, h => by
    have := cellsT_get ts i (by simpa using h)
    have e : cellsT (t :: ts) = [.int .i64 t.len, .int .i64 t.dist, .int .i64 t.byte] ++ cellsT ts := by simp [cellsT]
    rw [e, show (i + 1) * 3 = i * 3 + 3 by omega]
    simpa [List.getElem?_append] using this

/-- The slice v is the call's own (from block B on) and holds these tokens. -/
def TokRow (w : World) (B : Nat) (v : Value) (ts : List Tok) : Prop := w.ownsRow B 60 3 v ts.length (cellsT ts)
theorem TokRow.form {w : World} {B : Nat} {v : Value} {ts : List Tok} (h : TokRow w B v ts) : ∃ ao cp, v = .slice ao ts.length cp := by
  rcases h.2 with ⟨rfl, hn⟩ | ⟨g, cap, cur, rfl, _⟩
  · exact ⟨none, 0, by rw [hn]⟩
  · exact ⟨_, _, rfl⟩
theorem TokRow.toks {w : World} {B : Nat} {a : Option Addr} {cap : Nat} {ts : List Tok} (h : TokRow w B (.slice a ts.length cap) ts) : ToksAt w a ts := by
  rcases Nat.eq_zero_or_pos ts.length with h0 | h0
  · exact .inl (List.eq_nil_of_length_eq_zero h0)
  · rcases h.2 with ⟨_, hn⟩ | ⟨g, cp, cur, hv, hb, hg, _⟩
    · omega
    · simp at hv
      obtain ⟨rfl, rfl⟩ := hv
      refine .inr ⟨g, 0, rfl, (Array.getElem?_eq_some_iff.1 hg).1, fun i hi => ?_⟩
      have hadd : ∀ j, (⟨g, 0, none⟩ : Addr).add j = ⟨g, j, none⟩ := fun j => by unfold Addr.add; split <;> simp_all
      obtain ⟨e0, e1, e2⟩ := cellsT_get ts i hi
      have k0 := World.ownsRow.cells h (g := g) rfl _ _ e0
      have k1 := World.ownsRow.cells h (g := g) rfl _ _ e1
      have k2 := World.ownsRow.cells h (g := g) rfl _ _ e2
      rw [hadd] at k0 k1 k2
      simp only [Nat.zero_add]
      exact ⟨k0, k1, k2⟩
theorem TokRow.kept {w w' : World} {B q : Nat} {v : Value} {ts : List Tok} (h : TokRow w B v ts) (hk : OneKept w w' q) (hq : q < B) : TokRow w' B v ts := by
  refine World.ownsRow.kept h (row := some q) ⟨hk.os, hk.tape, hk.output, hk.size, fun k hk' hne => hk.heap k hk' (fun e => hne (by rw [e]))⟩ ?_
  rcases hv : v.ownBlock with _ | k
  · exact .inl rfl
  · refine .inr (fun e => ?_)
    have := (World.ownsRow.lt h k hv).1
    simp at e
    omega
theorem TokRow.alloc {w : World} {B : Nat} {v : Value} {ts : List Tok} (h : TokRow w B v ts) (o : Obj) : TokRow (w.alloc o) B v ts := World.ownsRow.alloc h o

theorem infoTok : (Try.prog.info? 60).map (fun i => (i.zero, i.size, i.bytes)) = some (some (.agg #[.int .i64 0, .int .i64 0, .int .i64 0]), 3, 24) := by kernel_rfl

theorem cell_new3 (w : World) (x y z : Value) (t : TypeId) (j : Nat) (v : Value) (hj : [x, y, z][j]? = some v) : (w.alloc (.cells #[x, y, z] t)).cell? ((⟨w.heap.size, 0, none⟩ : Addr).add j) = some v := by
  match j, hj with
  | 0, hj => simp at hj; subst hj; simp [Addr.add]
  | 1, hj => simp at hj; subst hj; simp [Addr.add]
  | 2, hj => simp at hj; subst hj; simp [Addr.add]

/-- What holds at the head of the loop over a frame's tokens. -/
def FrRel (w wr : World) (q : Nat) (L : List Bool) (n n0 g : Nat) (vP vD vE v : Value) (made : Nat) : Prop :=
  ∃ (acc : List Tok) (m : Nat) (E : Int), TokRow wr w.heap.size v acc ∧ made ≤ 192 ∧ OneKept w wr q ∧ TextAt wr q L m E vP vD vE ∧ m ≤ L.length ∧ acc.length ≤ 65 ∧
    ((E = 0 ∧ n0 ≤ m ∧ g = n + 1 - made ∧ made ≤ n ∧ acc.length ≤ made ∧ (∃ out, Tok.expand [] acc = some out ∧ out.length = made) ∧ rToks n n 0 (L.drop n0) = pre acc (rToks n (n - acc.length) made (L.drop m))) ∨
     (E ≠ 0 ∧ g = 0 ∧ rToks n n 0 (L.drop n0) = .error E))

/-- How the loop over a frame's tokens ends. -/
def FrEnd (w wr : World) (q : Nat) (L : List Bool) (n n0 : Nat) (vP vD vE v : Value) : Prop :=
  ∃ (acc : List Tok) (m : Nat), TokRow wr w.heap.size v acc ∧ OneKept w wr q ∧ m ≤ L.length ∧ acc.length ≤ 65 ∧
    ((∃ E, E ≠ 0 ∧ TextAt wr q L m E vP vD vE ∧ rToks n n 0 (L.drop n0) = .error E) ∨
     (∃ out, Tok.expand [] acc = some out ∧ out.length = n ∧ TextAt wr q L m 0 vP vD vE ∧ rToks n n 0 (L.drop n0) = .ok (acc, L.drop m)))

theorem fr_step_ok {L : List Bool} {n n0 made m m' : Nat} {acc : List Tok} {out : List UInt8} {t : Tok} (hm : made < n) (hn : n ≤ 64) (hacc : acc.length ≤ made)
    (hex : Tok.expand [] acc = some out) (hol : out.length = made) (heq : rToks n n 0 (L.drop n0) = pre acc (rToks n (n - acc.length) made (L.drop m))) (ht : rTok made (n - made) (L.drop m) = .ok (t, L.drop m')) :
    Tok.expand [] (acc ++ [t]) = some (Tok.step out t) ∧ ((Tok.step out t).length : Int) = made + t.len ∧ 1 ≤ t.len ∧ t.len ≤ n - made ∧ rToks n n 0 (L.drop n0) = pre (acc ++ [t]) (rToks n (n - (acc ++ [t]).length) (made + t.len.toNat) (L.drop m')) := by
  obtain ⟨hfit, h1, h2⟩ := rTok_fits ht (by omega) (by omega)
  refine ⟨?_, ?_, h1, by omega, ?_⟩
  · rw [Tok.expand_append, hex]
    simp [Tok.expand, hol, hfit]
  · have := Tok.step_length out t _ hfit
    rw [this, hol]
  · rw [heq, show n - acc.length = (n - (acc ++ [t]).length) + 1 by simp; omega]
    exact rToks_next acc hm ht

theorem own_ne {w : World} {B B' n n' z z' : Nat} {e e' : TypeId} {v v' : Value} {xs xs' : List Value} (h : w.ownsRow B e z v n xs) (h' : w.ownsRow B' e' z' v' n' xs') (hne : e ≠ e') : v.ownBlock = none ∨ v.ownBlock ≠ v'.ownBlock := by
  rcases h.2 with ⟨rfl, _⟩ | ⟨g, cap, cur, rfl, _, hg, _⟩
  · exact .inl rfl
  · refine .inr (fun e => ?_)
    rcases h'.2 with ⟨rfl, _⟩ | ⟨g', cap', cur', rfl, _, hg', _⟩
    · simp [Value.ownBlock] at e
    · simp [Value.ownBlock] at e
      subst e
      rw [hg] at hg'
      simp at hg'
      exact hne hg'.2
theorem own_lt_ne {w : World} {B' n' z' : Nat} {e' : TypeId} {v v' : Value} {xs' : List Value} (h' : w.ownsRow B' e' z' v' n' xs') (hlt : ∀ k, v.ownBlock = some k → k < B') : v.ownBlock = none ∨ v.ownBlock ≠ v'.ownBlock := by
  rcases hv : v.ownBlock with _ | k
  · exact .inl rfl
  · refine .inr (fun e => ?_)
    have := hlt k hv
    have := (World.ownsRow.lt h' k e.symm).1
    omega

/-- The reader's three lists: the pieces' tokens, the data, where frames end. -/
structure Lists (w : World) (B : Nat) (ps : List (List Tok)) (data : List UInt8) (ends : List Nat) (vP vD vE : Value) : Prop where
  pieces : ∃ vs : List Value, w.ownsRow B 25 1 vP ps.length vs ∧ ∀ i, i < ps.length → ∃ a c, vs[i]? = some (.slice a (ps.getD i []).length c) ∧ TokRow w B (.slice a (ps.getD i []).length c) (ps.getD i [])
  data : OwnB w B vD data
  ends : w.ownsRow B 3 1 vE ends.length (ends.map fun n : Nat => Value.int .i64 (n : Int))

theorem Lists.grown {w w' : World} {B : Nat} {ps : List (List Tok)} {data : List UInt8} {ends : List Nat} {vP vD vE : Value} {row : Option Nat} (h : Lists w B ps data ends vP vD vE) (hg : w.grownBy w' row) (hr : ∀ k, row = some k → k < B) : Lists w' B ps data ends vP vD vE := by
  have key : ∀ {e : TypeId} {z : Nat} {v : Value} {n : Nat} {xs : List Value}, w.ownsRow B e z v n xs → w'.ownsRow B e z v n xs := fun {e z v n xs} ho => by
    refine World.ownsRow.kept ho hg ?_
    rcases hv : v.ownBlock with _ | k
    · exact .inl rfl
    · refine .inr (fun e => ?_)
      have h1 := (World.ownsRow.lt ho k hv).1
      have h2 := hr k e.symm
      omega
  obtain ⟨vs, h1, h2⟩ := h.pieces
  exact ⟨⟨vs, key h1, fun i hi => by obtain ⟨a, c, g1, g2⟩ := h2 i hi; exact ⟨a, c, g1, key g2⟩⟩, key h.data, key h.ends⟩
theorem Lists.one {w w' : World} {q B : Nat} {ps : List (List Tok)} {data : List UInt8} {ends : List Nat} {vP vD vE : Value} (h : Lists w B ps data ends vP vD vE) (hk : OneKept w w' q) (hq : q < B) : Lists w' B ps data ends vP vD vE :=
  h.grown (row := some q) ⟨hk.os, hk.tape, hk.output, hk.size, fun k hk' hne => hk.heap k hk' (fun e => hne (by rw [e]))⟩ (fun k e => by simp at e; omega)
theorem Lists.below {w w' : World} {B : Nat} {ps : List (List Tok)} {data : List UInt8} {ends : List Nat} {vP vD vE : Value} (h : Lists w B ps data ends vP vD vE) (hb : Below w.heap.size w w') : Lists w' B ps data ends vP vD vE :=
  h.grown (row := none) ⟨hb.os, hb.tape, hb.output, hb.size, fun k hk _ => hb.block k hk⟩ (fun k e => by cases e)

theorem frame_err (q : Nat) (L : List Bool) (n : Nat) (E m : Int) (vP vD vE : Value) (w : World) (h : TextAt w q L n E vP vD vE) (hE : E ≠ 0) :
    Calls Try.prog 48 #[.pointer (some ⟨q, 0, none⟩), .int .i64 m] w fun r w' => r = .returned (.tuple #[]) ∧ w' = w := by
  obtain ⟨⟨c0, c1, c2⟩, f1, f2⟩ := h.cell
  have HT : Hid (TextAt w q L n E vP vD vE) := h
  have HE : Hid (E ≠ 0) := hE
  have hE1 : (E == 0) = false := beq_eq_false_iff_ne.2 hE
  have hE' : (E != 0) = true := by simpa using hE
  clear h c0 c1 f1 f2 hE
  go_enter Try.func48, Try.ntmps48
  go_wp2_with fail
  refine wp_loop_rounds 1 ?_
  rw [rounds_succ]
  go_wp2_with fail
  refine (rest_err q L n E vP vD vE _ HT.out HE.out).mono ?_
  rintro r w1 ⟨rfl, rfl⟩
  go_wp2_with fail
  refine (take_err q L n E 8 vP vD vE _ HT.out HE.out).mono ?_
  rintro r w2 ⟨rfl, rfl⟩
  go_wp2_with fail
  refine (take_err q L n E 8 vP vD vE _ HT.out HE.out).mono ?_
  rintro r w3 ⟨rfl, rfl⟩
  go_wp2
  go_returns
  exact ⟨rfl, rfl⟩
end Go.Proofs.Ytnncabpfalcaaaa
