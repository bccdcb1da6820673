/-
  Lemmas for the law All: Sb6, On0.
-/
import Derived.Test.YtnpnaglgllcpfaaGreatM06
/- What the program's reader of frames does to memory: the first three bytes; the frames. -/
namespace Go.Proofs.YtnpnaglgllcpfaaGreat
set_option maxRecDepth 100000
open Go.RowKit

/-- How readBegin ends. -/
def BegAns (w w' : World) (q : Nat) (a : Option Addr) (l : List UInt8) (cap : Nat) (r : Ending) : Prop :=
  OneKept w w' q ∧ ((∃ c m, rMagic [80, 90, 49] (bitsIn l) = .error c ∧ c ≠ 0 ∧ m ≤ (bitsIn l).length ∧ r = .returned (.int .i64 c) ∧ RdrAt w' q a l cap m) ∨
    (rMagic [80, 90, 49] (bitsIn l) = .ok ((bitsIn l).drop 24) ∧ 24 ≤ (bitsIn l).length ∧ r = .returned (.int .i64 0) ∧ RdrAt w' q a l cap 24))

theorem magic_step {L : List Bool} {k b : Nat} {bs : List Nat} (hk : ([80, 90, 49] : List Nat).drop k = b :: bs) (heq : rMagic [80, 90, 49] L = rMagic ([80, 90, 49].drop k) (L.drop (8 * k))) :
    (L.length < 8 * k + 8 → rMagic [80, 90, 49] L = .error 4) ∧ (8 * k + 8 ≤ L.length → (valB ((L.drop (8 * k)).take 8) = b → rMagic [80, 90, 49] L = rMagic ([80, 90, 49].drop (k + 1)) (L.drop (8 * (k + 1)))) ∧ (valB ((L.drop (8 * k)).take 8) ≠ b → rMagic [80, 90, 49] L = .error 3)) := by
  rw [hk] at heq
  replace heq := heq.trans (show rMagic (b :: bs) (L.drop (8 * k)) = if (L.drop (8 * k)).length < 8 then .error 4 else if valB ((L.drop (8 * k)).take 8) = b then rMagic bs ((L.drop (8 * k)).drop 8) else .error 3 from rfl)
  refine ⟨fun h => ?_, fun h => ⟨fun hv => ?_, fun hv => ?_⟩⟩
  · rw [heq, if_pos (by rw [List.length_drop]; omega)]
  · rw [heq, if_neg (by rw [List.length_drop]; omega), if_pos hv, List.drop_drop, magic_at k b bs hk]; rfl
  · rw [heq, if_neg (by rw [List.length_drop]; omega), if_neg hv]

set_option maxHeartbeats 1000000 in
theorem readBegin_calls (q : Nat) (a : Option Addr) (l : List UInt8) (cap : Nat) (w : World) (h : RdrAt w q a l cap 0) (hl : l.length ≤ 4096) :
    Calls Tryz.prog 116 #[.pointer (some ⟨q, 0, none⟩)] w fun r w' => BegAns w w' q a l cap r := by
  have HR : Hid (RdrAt w q a l cap 0) := h
  clear h
  go_enter Tryz.func116, Tryz.ntmps116
  go_wp2_with fail
  go_loopw [3] (fun i wr => ∃ k : Nat, k ≤ 3 ∧ 8 * k ≤ (bitsIn l).length ∧ i = .int .i64 k ∧ Hid (RdrAt wr q a l cap (8 * k)) ∧ Hid (OneKept w wr q) ∧ Hid (rMagic [80, 90, 49] (bitsIn l) = rMagic ([80, 90, 49].drop k) ((bitsIn l).drop (8 * k)))) (fun i _ => 3 - (intOf i).toNat)
  case atStart => exact ⟨0, by omega, by omega, rfl, HR, OneKept.refl _ _, rfl⟩
  case round =>
    obtain ⟨k, hk, hk8, rfl, hr, ho, heq⟩ := hrel
    rcases (show k = 0 ∨ k = 1 ∨ k = 2 ∨ k = 3 by omega) with rfl | rfl | rfl | rfl
    case inr.inr.inr =>
      have HE : Hid (rMagic [80, 90, 49] (bitsIn l) = .ok ((bitsIn l).drop 24)) := heq.out
      go_wp2
      go_ret
      exact ⟨ho.out, .inr ⟨HE.out, hk8, rfl, hr.out⟩⟩
    case inl =>
      have HS : Hid _ := magic_step (k := 0) (b := 80) (bs := [90, 49]) rfl heq.out
      go_wp2_with fail
      refine (byteR_calls q a l cap (8 * 0) _ hr.out hl hk8).mono ?_
      rintro r w1 ⟨ho1, ⟨h1, rfl, m, hm, hr1⟩ | ⟨h1, rfl, hr1⟩⟩
      · have HO1 : Hid (OneKept w w1 q) := ho.out.trans ho1
        have HR1 : Hid (RdrAt w1 q a l cap m) := hr1
        have HE : Hid _ := HS.out.1 h1
        clear ho1 hr1 HS
        go_wp2
        go_ret
        exact ⟨HO1.out, .inl ⟨4, m, HE.out, by decide, hm, rfl, HR1.out⟩⟩
      · have HO1 : Hid (OneKept w w1 q) := ho.out.trans ho1
        have HR1 : Hid (RdrAt w1 q a l cap (8 * 0 + 8)) := hr1
        have HSS : Hid _ := HS.out.2 h1
        clear ho1 hr1 HS
        rw [digB_zero]
        generalize valB (((bitsIn l).drop (8 * 0)).take 8) = x at *
        have hw : wrap64 ((((⟨#[80, 90, 49]⟩ : ByteArray)[0]'(by decide)).toNat : Nat) : Int) = 80 := (show wrap64 ((80 : Nat) : Int) = 80 from IntWalk.wrap64_in _ ⟨by omega, by omega⟩)
        by_cases hx : x = 80
        · have HE : Hid _ := HSS.out.1 hx
          have hxb : ((x : Int) != wrap64 ((((⟨#[80, 90, 49]⟩ : ByteArray)[0]'(by decide)).toNat : Nat) : Int)) = false := by rw [hw]; simp; omega
          clear HSS hw hx
          go_wp2
          go_roundw
          case rel => exact ⟨0 + 1, by omega, by omega, by go_num, HR1.out, HO1.out, HE.out⟩
          case measure => simp [intOf]
        · have HE : Hid _ := HSS.out.2 hx
          have hxb : ((x : Int) != wrap64 ((((⟨#[80, 90, 49]⟩ : ByteArray)[0]'(by decide)).toNat : Nat) : Int)) = true := by rw [hw]; simp; omega
          clear HSS hw hx
          go_wp2
          go_ret
          exact ⟨HO1.out, .inl ⟨3, _, HE.out, by decide, h1, rfl, HR1.out⟩⟩
    case inr.inl =>
      have HS : Hid _ := magic_step (k := 1) (b := 90) (bs := [49]) rfl heq.out
      go_wp2_with fail
      refine (byteR_calls q a l cap (8 * 1) _ hr.out hl hk8).mono ?_
      rintro r w1 ⟨ho1, ⟨h1, rfl, m, hm, hr1⟩ | ⟨h1, rfl, hr1⟩⟩
      · have HO1 : Hid (OneKept w w1 q) := ho.out.trans ho1
        have HR1 : Hid (RdrAt w1 q a l cap m) := hr1
        have HE : Hid _ := HS.out.1 h1
        clear ho1 hr1 HS
        go_wp2
        go_ret
        exact ⟨HO1.out, .inl ⟨4, m, HE.out, by decide, hm, rfl, HR1.out⟩⟩
      · have HO1 : Hid (OneKept w w1 q) := ho.out.trans ho1
        have HR1 : Hid (RdrAt w1 q a l cap (8 * 1 + 8)) := hr1
        have HSS : Hid _ := HS.out.2 h1
        clear ho1 hr1 HS
        rw [digB_zero]
        generalize valB (((bitsIn l).drop (8 * 1)).take 8) = x at *
        have hw : wrap64 ((((⟨#[80, 90, 49]⟩ : ByteArray)[1]'(by decide)).toNat : Nat) : Int) = 90 := (show wrap64 ((90 : Nat) : Int) = 90 from IntWalk.wrap64_in _ ⟨by omega, by omega⟩)
        by_cases hx : x = 90
        · have HE : Hid _ := HSS.out.1 hx
          have hxb : ((x : Int) != wrap64 ((((⟨#[80, 90, 49]⟩ : ByteArray)[1]'(by decide)).toNat : Nat) : Int)) = false := by rw [hw]; simp; omega
          clear HSS hw hx
          go_wp2
          go_roundw
          case rel => exact ⟨1 + 1, by omega, by omega, by go_num, HR1.out, HO1.out, HE.out⟩
          case measure => simp [intOf]
        · have HE : Hid _ := HSS.out.2 hx
          have hxb : ((x : Int) != wrap64 ((((⟨#[80, 90, 49]⟩ : ByteArray)[1]'(by decide)).toNat : Nat) : Int)) = true := by rw [hw]; simp; omega
          clear HSS hw hx
          go_wp2
          go_ret
          exact ⟨HO1.out, .inl ⟨3, _, HE.out, by decide, h1, rfl, HR1.out⟩⟩
    case inr.inr.inl =>
      have HS : Hid _ := magic_step (k := 2) (b := 49) (bs := []) rfl heq.out
      go_wp2_with fail
      refine (byteR_calls q a l cap (8 * 2) _ hr.out hl hk8).mono ?_
      rintro r w1 ⟨ho1, ⟨h1, rfl, m, hm, hr1⟩ | ⟨h1, rfl, hr1⟩⟩
      · have HO1 : Hid (OneKept w w1 q) := ho.out.trans ho1
        have HR1 : Hid (RdrAt w1 q a l cap m) := hr1
        have HE : Hid _ := HS.out.1 h1
        clear ho1 hr1 HS
        go_wp2
        go_ret
        exact ⟨HO1.out, .inl ⟨4, m, HE.out, by decide, hm, rfl, HR1.out⟩⟩
      · have HO1 : Hid (OneKept w w1 q) := ho.out.trans ho1
        have HR1 : Hid (RdrAt w1 q a l cap (8 * 2 + 8)) := hr1
        have HSS : Hid _ := HS.out.2 h1
        clear ho1 hr1 HS
        rw [digB_zero]
        generalize valB (((bitsIn l).drop (8 * 2)).take 8) = x at *
        have hw : wrap64 ((((⟨#[80, 90, 49]⟩ : ByteArray)[2]'(by decide)).toNat : Nat) : Int) = 49 := (show wrap64 ((49 : Nat) : Int) = 49 from IntWalk.wrap64_in _ ⟨by omega, by omega⟩)
        by_cases hx : x = 49
        · have HE : Hid _ := HSS.out.1 hx
          have hxb : ((x : Int) != wrap64 ((((⟨#[80, 90, 49]⟩ : ByteArray)[2]'(by decide)).toNat : Nat) : Int)) = false := by rw [hw]; simp; omega
          clear HSS hw hx
          go_wp2
          go_roundw
          case rel => exact ⟨2 + 1, by omega, by omega, by go_num, HR1.out, HO1.out, HE.out⟩
          case measure => simp [intOf]
        · have HE : Hid _ := HSS.out.2 hx
          have hxb : ((x : Int) != wrap64 ((((⟨#[80, 90, 49]⟩ : ByteArray)[2]'(by decide)).toNat : Nat) : Int)) = true := by rw [hw]; simp; omega
          clear HSS hw hx
          go_wp2
          go_ret
          exact ⟨HO1.out, .inl ⟨3, _, HE.out, by decide, h1, rfl, HR1.out⟩⟩

/-- What is read of frames, step by step. -/
theorem rMain_step (L : List Bool) (f : Nat) (ps : List (List Tok)) (data : List UInt8) (ends : List Nat) (R : List Bool) :
    rMain L (f + 1) ps data ends R = (match rStep (decide (data.length ≠ 64 * ps.length)) R with
      | .error c => (c, ps, data, ends)
      | .ok (none, R1) => ((if 0 < R1.length then 9 else 0), ps, data, ends)
      | .ok (some ts, R2) => rMain L f (ps ++ [ts]) (data ++ made ts) (ends ++ [(L.length - R2.length) / 8]) R2) := by
  simp only [rMain, rStep]
  rcases hn : rNum 5 0 R with c | ⟨v, R1⟩
  · rfl
  · simp only
    by_cases hv : v = 1
    · simp only [if_pos hv]
      cases hp : padB R1 with
      | false => simp
      | true => simp
    · simp only [if_neg hv, decide_eq_true_eq]
      by_cases hb : 64 < v - 1 ∨ data.length ≠ 64 * ps.length
      · simp only [if_pos hb]
      · simp only [if_neg hb]
        rcases hf : rFrame (v - 1) R1 with c | ⟨ts, R2⟩
        · rfl
        · rfl

/-- This row lies apart from the tokens of the frames ahead. -/
def NewRow (vs : List Value) (i : Nat) (v : Value) : Prop := ∀ j u, j < i → vs[j * 2]? = some u → ∀ k, u.ownBlock = some k → v.ownBlock ≠ some k
/-- These cells are frames', each with tokens and bytes that are the call's own. -/
def InnerAt (w : World) (B : Nat) (vs : List Value) (fs : List (List Tok × List UInt8)) : Prop :=
  ∀ i, i < fs.length → ∃ a c b d, vs[i * 2]? = some (.slice a (fs.getD i ([], [])).1.length c) ∧ vs[i * 2 + 1]? = some (.slice b (fs.getD i ([], [])).2.length d) ∧
    TokRow w B (.slice a (fs.getD i ([], [])).1.length c) (fs.getD i ([], [])).1 ∧ OwnB w B (.slice b (fs.getD i ([], [])).2.length d) (fs.getD i ([], [])).2 ∧ 1 ≤ (fs.getD i ([], [])).2.length ∧ NewRow vs i (.slice a (fs.getD i ([], [])).1.length c)
/-- The slice v is the call's own (from block B on) and holds these frames. -/
def FramesAt (w : World) (B : Nat) (v : Value) (fs : List (List Tok × List UInt8)) : Prop :=
  ∃ vs : List Value, w.ownsRow B 137 2 v fs.length vs ∧ InnerAt w B vs fs
theorem InnerAt.nil (w : World) (B : Nat) : InnerAt w B [] [] := fun i hi => by simp at hi
theorem row_grown {w w' : World} {B n z : Nat} {e : TypeId} {v : Value} {xs : List Value} {row : Option Nat} (h : w.ownsRow B e z v n xs) (hg : w.grownBy w' row) (hr : ∀ k, row = some k → k < B) : w'.ownsRow B e z v n xs := by
  refine World.ownsRow.kept h hg ?_
  rcases hv : v.ownBlock with _ | k
  · exact .inl rfl
  · refine .inr (fun e => ?_)
    have h1 := (World.ownsRow.lt h k hv).1
    have h2 := hr k e.symm
    omega
theorem OneKept.grown {w w' : World} {q : Nat} (hk : OneKept w w' q) : w.grownBy w' (some q) := ⟨hk.os, hk.tape, hk.output, hk.size, fun k hk' hne => hk.heap k hk' (fun e => hne (by rw [e]))⟩
theorem row_one {w w' : World} {B n z q : Nat} {e : TypeId} {v : Value} {xs : List Value} (h : w.ownsRow B e z v n xs) (hk : OneKept w w' q) (hq : q < B) : w'.ownsRow B e z v n xs :=
  row_grown h hk.grown (fun k e => by simp at e; omega)
theorem InnerAt.one {w w' : World} {B q : Nat} {vs : List Value} {fs : List (List Tok × List UInt8)} (h : InnerAt w B vs fs) (hk : OneKept w w' q) (hq : q < B) : InnerAt w' B vs fs := fun i hi => by
  obtain ⟨a, c, b, d, h1, h2, h3, h4, h5⟩ := h i hi
  exact ⟨a, c, b, d, h1, h2, row_one h3 hk hq, row_one h4 hk hq, h5⟩
theorem row_below {w w' : World} {B n z : Nat} {e : TypeId} {v : Value} {xs : List Value} (h : w.ownsRow B e z v n xs) (hb : Below w.heap.size w w') : w'.ownsRow B e z v n xs :=
  row_grown h (row := none) ⟨hb.os, hb.tape, hb.output, hb.size, fun k hk _ => hb.block k hk⟩ (fun k e => by cases e)
theorem InnerAt.below {w w' : World} {B : Nat} {vs : List Value} {fs : List (List Tok × List UInt8)} (h : InnerAt w B vs fs) (hb : Below w.heap.size w w') : InnerAt w' B vs fs := fun i hi => by
  obtain ⟨a, c, b, d, h1, h2, h3, h4, h5⟩ := h i hi
  exact ⟨a, c, b, d, h1, h2, row_below h3 hb, row_below h4 hb, h5⟩
theorem FramesAt.below {w w' : World} {B : Nat} {v : Value} {fs : List (List Tok × List UInt8)} (h : FramesAt w B v fs) (hb : Below w.heap.size w w') : FramesAt w' B v fs := by
  obtain ⟨vs, h1, h2⟩ := h
  exact ⟨vs, row_below h1 hb, h2.below hb⟩
/-- A row that is owned, and a box of another type. -/
theorem row_set {w : World} {B n z p i : Nat} {e t : TypeId} {v u : Value} {xs : List Value} {cs : Array Value} {m : Nat × Nat} (h : w.ownsRow B e z v n xs) (hx : w.heap[p]? = some (.cells cs t m)) (hne : e ≠ t) : (w.setCell ⟨p, i, none⟩ u).ownsRow B e z v n xs := by
  refine ⟨h.1, ?_⟩
  rcases h.2 with h' | ⟨g, cap, cur, h1, h2, hg, r⟩
  · exact .inl h'
  · refine .inr ⟨g, cap, cur, h1, h2, ?_, r⟩
    rw [set_other u (fun e' => ?_)]
    · exact hg
    · subst e'
      rw [hg] at hx
      simp at hx
      exact hne hx.2.1
theorem InnerAt.set {w : World} {B p i : Nat} {u : Value} {vs : List Value} {fs : List (List Tok × List UInt8)} {cs : Array Value} {m : Nat × Nat} (h : InnerAt w B vs fs) (hx : w.heap[p]? = some (.cells cs 137 m)) : InnerAt (w.setCell ⟨p, i, none⟩ u) B vs fs := fun j hj => by
  obtain ⟨a, c, b, d, h1, h2, h3, h4, h5⟩ := h j hj
  exact ⟨a, c, b, d, h1, h2, row_set h3 hx (by decide), row_set h4 hx (by decide), h5⟩
theorem row_kept {w w' : World} {B n z : Nat} {e : TypeId} {v x : Value} {xs : List Value} {B' n' z' : Nat} {e' : TypeId} {xs' : List Value} (h : w.ownsRow B e z v n xs) (h' : w.ownsRow B' e' z' x n' xs') (hne : e ≠ e') (hg : w.grownBy w' x.ownBlock) : w'.ownsRow B e z v n xs :=
  World.ownsRow.kept h hg (own_ne h h' hne)
/-- The frames behind one more. -/
theorem InnerAt.snoc {w w' : World} {B B0 : Nat} {v : Value} {fs : List (List Tok × List UInt8)} {vs : List Value} {a b : Option Addr} {c d : Nat} {ts : List Tok} {out : List UInt8}
    (ho : w.ownsRow B0 137 2 v fs.length vs) (hf : InnerAt w B vs fs) (hT : TokRow w B (.slice a ts.length c) ts) (hB : OwnB w B (.slice b out.length d) out) (h1o : 1 ≤ out.length) (hnr : NewRow vs fs.length (.slice a ts.length c))
    (hg : w.grownBy w' v.ownBlock) : InnerAt w' B (vs ++ [.slice a ts.length c, .slice b out.length d]) (fs ++ [(ts, out)]) := by
  have hvl : vs.length = fs.length * 2 := ho.1
  have hn1 : 42 ≠ 137 := by decide
  have hn2 : 5 ≠ 137 := by decide
  have hnx : ∀ i v, i ≤ fs.length → NewRow vs i v → NewRow (vs ++ [.slice a ts.length c, .slice b out.length d]) i v := fun i v hi h j u hj hu => h j u hj (by rw [List.getElem?_append_left (by omega)] at hu; exact hu)
  intro i hi
  simp only [List.length_append, List.length_cons, List.length_nil] at hi
  rcases Nat.lt_or_ge i fs.length with h | h
  · obtain ⟨a', c', b', d', h1, h2, h3, h4, h5, h6⟩ := hf i h
    have e : (fs ++ [(ts, out)]).getD i ([], []) = fs.getD i ([], []) := by simp [List.getD, List.getElem?_append_left h]
    rw [e]
    refine ⟨a', c', b', d', ?_, ?_, row_kept h3 ho hn1 hg, row_kept h4 ho hn2 hg, h5, hnx i _ (by omega) h6⟩
    · rw [List.getElem?_append_left (by omega)]; exact h1
    · rw [List.getElem?_append_left (by omega)]; exact h2
  · have hi' : i = fs.length := by omega
    subst hi'
    have e : (fs ++ [(ts, out)]).getD fs.length ([], []) = (ts, out) := by simp [List.getD]
    rw [e]
    refine ⟨a, c, b, d, ?_, ?_, row_kept hT ho hn1 hg, row_kept hB ho hn2 hg, h1o, hnx _ _ (Nat.le_refl _) hnr⟩
    · rw [← hvl]; simp
    · rw [← hvl, List.getElem?_append_right (by omega)]; simp
theorem infoFrame : (Tryz.prog.info? 137).map (fun i => (i.zero, i.size, i.bytes)) = some (some (.agg #[.slice none 0 0, .slice none 0 0]), 2, 48) := by kernel_rfl
end Go.Proofs.YtnpnaglgllcpfaaGreat

/- What is read of a stream, part by part, and what does not change when more comes: plain facts, of no program. -/
namespace Go.Proofs.YtnpnaglgllcpfaaGreat
set_option maxRecDepth 100000

abbrev psOf (fs : List (List Tok × List UInt8)) : List (List Tok) := fs.map Prod.fst
abbrev dataOf (fs : List (List Tok × List UInt8)) : List UInt8 := (fs.map Prod.snd).flatten

theorem rStep_short (R R2 : List Bool) (ts : List Tok) : rStep true R ≠ .ok (some ts, R2) := by
  unfold rStep
  rcases rNum 5 0 R with c | ⟨v, R1⟩
  · simp
  · simp only
    by_cases hv : v = 1
    · simp only [if_pos hv]
      cases padB R1 <;> simp
    · simp [if_neg hv]

theorem rNum_more (e : Int) (X : List Bool) : ∀ (R : List Bool) (z v : Nat) (R' : List Bool), rNum e z R = .ok (v, R') → rNum e z (R ++ X) = .ok (v, R' ++ X)
  | [], _, _, _, h => by simp [rNum] at h
  | true :: R, z, v, R', h => by
    simp only [rNum, List.cons_append] at h ⊢
    split at h
    · cases h
    · rename_i hz
      simp at h
      obtain ⟨rfl, rfl⟩ := h
      rw [if_neg (by rw [List.length_append]; omega), List.take_append_of_le_length (by omega), List.drop_append_of_le_length (by omega)]
  | false :: R, z, v, R', h => by
    simp only [rNum, List.cons_append] at h ⊢
    split at h
    · cases h
    · rename_i hz
      rw [if_neg hz]; exact rNum_more e X R _ v R' h
theorem rNum_err (e : Int) (X : List Bool) : ∀ (R : List Bool) (z : Nat) (c : Int), rNum e z R = .error c → c ≠ 4 → rNum e z (R ++ X) = .error c
  | [], _, _, h, hc => by simp [rNum] at h; omega
  | true :: R, z, c, h, hc => by
    simp only [rNum] at h
    split at h
    · simp at h; omega
    · cases h
  | false :: R, z, c, h, hc => by
    simp only [rNum, List.cons_append] at h ⊢
    split at h
    · rename_i hz
      rw [if_pos hz]; exact h
    · rename_i hz
      rw [if_neg hz]; exact rNum_err e X R _ c h hc

theorem rTok_more (X : List Bool) {made left : Nat} {R R' : List Bool} {t : Tok} (h : rTok made left R = .ok (t, R')) : rTok made left (R ++ X) = .ok (t, R' ++ X) := by
  match R, h with
  | false :: R, h =>
    simp only [rTok, List.cons_append] at h ⊢
    split at h
    · cases h
    · rename_i hz
      simp at h
      obtain ⟨rfl, rfl⟩ := h
      rw [if_neg (by rw [List.length_append]; omega), List.take_append_of_le_length (by omega), List.drop_append_of_le_length (by omega)]
  | true :: R, h =>
    simp only [rTok, List.cons_append] at h ⊢
    split at h
    · cases h
    · rename_i n R1 hn
      rw [rNum_more 6 X R 0 n R1 hn]
      simp only
      split at h
      · cases h
      · rename_i hl
        rw [if_neg hl]
        split at h
        · cases h
        · rename_i d R2 hd
          rw [rNum_more 6 X R1 0 d R2 hd]
          simp only
          split at h
          · cases h
          · rename_i hb
            rw [if_neg hb]
            simp at h
            obtain ⟨rfl, rfl⟩ := h
            rfl
theorem rTok_err (X : List Bool) {made left : Nat} {R : List Bool} {c : Int} (h : rTok made left R = .error c) (hc : c ≠ 4) : rTok made left (R ++ X) = .error c := by
  match R, h with
  | [], h => simp [rTok] at h; omega
  | false :: R, h =>
    simp only [rTok] at h
    split at h
    · simp at h; omega
    · cases h
  | true :: R, h =>
    simp only [rTok, List.cons_append] at h ⊢
    split at h
    · rename_i c' hn
      simp at h
      subst h
      rw [rNum_err 6 X R 0 c' hn hc]
    · rename_i n R1 hn
      rw [rNum_more 6 X R 0 n R1 hn]
      simp only
      split at h
      · rename_i hl
        rw [if_pos hl]; exact h
      · rename_i hl
        rw [if_neg hl]
        split at h
        · rename_i c' hd
          simp at h
          subst h
          rw [rNum_err 6 X R1 0 c' hd hc]
        · rename_i d R2 hd
          rw [rNum_more 6 X R1 0 d R2 hd]
          simp only
          split at h
          · rename_i hb
            rw [if_pos hb]; exact h
          · cases h

theorem rToks_more (X : List Bool) (n : Nat) : ∀ (f made : Nat) (R : List Bool) (ts : List Tok) (R' : List Bool), rToks n f made R = .ok (ts, R') → rToks n f made (R ++ X) = .ok (ts, R' ++ X)
  | 0, made, R, ts, R', h => by
    simp [rToks] at h ⊢
    obtain ⟨rfl, rfl⟩ := h
    simp
  | f + 1, made, R, ts, R', h => by
    simp only [rToks] at h ⊢
    split at h
    · rename_i hm
      rw [if_pos hm]
      simp at h
      obtain ⟨rfl, rfl⟩ := h
      rfl
    · rename_i hm
      rw [if_neg hm]
      split at h
      · cases h
      · rename_i t R1 ht
        rw [rTok_more X ht]
        simp only
        split at h
        · cases h
        · rename_i us R2 hu
          rw [rToks_more X n f _ R1 us R2 hu]
          simp at h
          obtain ⟨rfl, rfl⟩ := h
          rfl
theorem rToks_err (X : List Bool) (n : Nat) : ∀ (f made : Nat) (R : List Bool) (c : Int), rToks n f made R = .error c → c ≠ 4 → rToks n f made (R ++ X) = .error c
  | 0, made, R, c, h, _ => by simp [rToks] at h
  | f + 1, made, R, c, h, hc => by
    simp only [rToks] at h ⊢
    split at h
    · cases h
    · rename_i hm
      rw [if_neg hm]
      split at h
      · rename_i c' ht
        simp at h
        subst h
        rw [rTok_err X ht hc]
      · rename_i t R1 ht
        rw [rTok_more X ht]
        simp only
        split at h
        · rename_i c' hu
          simp at h
          subst h
          rw [rToks_err X n f _ R1 c' hu hc]
        · cases h

theorem padB_more (R X : List Bool) (h : X.length % 8 = 0) : padB (R ++ X) = padB R := by
  unfold padB
  rw [show (R ++ X).length % 8 = R.length % 8 by rw [List.length_append]; omega, List.take_append_of_le_length (by omega)]
theorem pad_drop (R X : List Bool) (h : X.length % 8 = 0) : (R ++ X).drop ((R ++ X).length % 8) = R.drop (R.length % 8) ++ X := by
  rw [show (R ++ X).length % 8 = R.length % 8 by rw [List.length_append]; omega, List.drop_append_of_le_length (by omega)]

theorem rFrame_more (X : List Bool) (hX : X.length % 8 = 0) {n : Nat} {R R' : List Bool} {ts : List Tok} (h : rFrame n R = .ok (ts, R')) : rFrame n (R ++ X) = .ok (ts, R' ++ X) := by
  simp only [rFrame] at h ⊢
  split at h
  · cases h
  · rename_i us R1 hu
    rw [rToks_more X n n 0 R us R1 hu]
    simp only
    rw [padB_more R1 X hX, pad_drop R1 X hX]
    split at h
    · cases h
    · rename_i hp
      rw [if_neg hp]
      split at h
      · cases h
      · rename_i hl
        rw [if_neg (by rw [List.length_append]; omega)]
        generalize R1.drop (R1.length % 8) = Q at *
        rw [List.take_append_of_le_length (by omega), List.drop_append_of_le_length (l₁ := Q) (i := 8) (by omega), List.take_append_of_le_length (by rw [List.length_drop]; omega), List.drop_append_of_le_length (by omega)]
        split at h
        · cases h
        · rename_i hs
          rw [if_neg hs]
          simp at h
          obtain ⟨rfl, rfl⟩ := h
          rfl
theorem rFrame_err (X : List Bool) (hX : X.length % 8 = 0) {n : Nat} {R : List Bool} {c : Int} (h : rFrame n R = .error c) (hc : c ≠ 4) : rFrame n (R ++ X) = .error c := by
  simp only [rFrame] at h ⊢
  split at h
  · rename_i c' hu
    simp at h
    subst h
    rw [rToks_err X n n 0 R c' hu hc]
  · rename_i us R1 hu
    rw [rToks_more X n n 0 R us R1 hu]
    simp only
    rw [padB_more R1 X hX, pad_drop R1 X hX]
    split at h
    · rename_i hp
      rw [if_pos hp]; exact h
    · rename_i hp
      rw [if_neg hp]
      split at h
      · simp at h; omega
      · rename_i hl
        rw [if_neg (by rw [List.length_append]; omega)]
        generalize R1.drop (R1.length % 8) = Q at *
        rw [List.take_append_of_le_length (by omega), List.drop_append_of_le_length (l₁ := Q) (i := 8) (by omega), List.take_append_of_le_length (by rw [List.length_drop]; omega)]
        split at h
        · rename_i hs
          rw [if_pos hs]; exact h
        · cases h

theorem rStep_more (X : List Bool) (hX : X.length % 8 = 0) {short : Bool} {R R' : List Bool} {o : Option (List Tok)} (h : rStep short R = .ok (o, R')) : rStep short (R ++ X) = .ok (o, R' ++ X) := by
  simp only [rStep] at h ⊢
  split at h
  · cases h
  · rename_i v R1 hn
    rw [rNum_more 5 X R 0 v R1 hn]
    simp only
    rw [padB_more R1 X hX, pad_drop R1 X hX]
    split at h
    · rename_i hv
      rw [if_pos hv]
      split at h
      · cases h
      · rename_i hp
        rw [if_neg hp]
        simp at h
        obtain ⟨rfl, rfl⟩ := h
        rfl
    · rename_i hv
      rw [if_neg hv]
      split at h
      · cases h
      · rename_i hb
        rw [if_neg hb]
        split at h
        · cases h
        · rename_i ts R2 hf
          rw [rFrame_more X hX hf]
          simp at h
          obtain ⟨rfl, rfl⟩ := h
          rfl
theorem rStep_more_err (X : List Bool) (hX : X.length % 8 = 0) {short : Bool} {R : List Bool} {c : Int} (h : rStep short R = .error c) (hc : c ≠ 4) : rStep short (R ++ X) = .error c := by
  simp only [rStep] at h ⊢
  split at h
  · rename_i c' hn
    simp at h
    subst h
    rw [rNum_err 5 X R 0 c' hn hc]
  · rename_i v R1 hn
    rw [rNum_more 5 X R 0 v R1 hn]
    simp only
    rw [padB_more R1 X hX, pad_drop R1 X hX]
    split at h
    · rename_i hv
      rw [if_pos hv]
      split at h
      · rename_i hp
        rw [if_pos hp]; exact h
      · cases h
    · rename_i hv
      rw [if_neg hv]
      split at h
      · rename_i hb
        rw [if_pos hb]; exact h
      · rename_i hb
        rw [if_neg hb]
        split at h
        · rename_i c' hf
          simp at h
          subst h
          rw [rFrame_err X hX hf hc]
        · cases h
theorem rMagic_more (X : List Bool) : ∀ (bs : List Nat) (R R' : List Bool), rMagic bs R = .ok R' → rMagic bs (R ++ X) = .ok (R' ++ X)
  | [], R, R', h => by simp [rMagic] at h ⊢; rw [h]
  | b :: bs, R, R', h => by
    simp only [rMagic] at h ⊢
    split at h
    · cases h
    · rename_i hl
      rw [if_neg (by rw [List.length_append]; omega), List.take_append_of_le_length (by omega), List.drop_append_of_le_length (by omega)]
      split at h
      · rename_i hb
        rw [if_pos hb]; exact rMagic_more X bs _ R' h
      · cases h
theorem rMagic_err (X : List Bool) : ∀ (bs : List Nat) (R : List Bool) (c : Int), rMagic bs R = .error c → c ≠ 4 → rMagic bs (R ++ X) = .error c
  | [], R, c, h, _ => by simp [rMagic] at h
  | b :: bs, R, c, h, hc => by
    simp only [rMagic] at h ⊢
    split at h
    · simp at h; omega
    · rename_i hl
      rw [if_neg (by rw [List.length_append]; omega), List.take_append_of_le_length (by omega), List.drop_append_of_le_length (by omega)]
      split at h
      · rename_i hb
        rw [if_pos hb]; exact rMagic_err X bs _ c h hc
      · rename_i hb
        rw [if_neg hb]; exact h

/-- The stage behind a frame that makes these bytes. -/
def stageOf (out : List UInt8) : Nat := if out.length < 64 then 2 else 1
/-- What comes at a stage off some bits: a frame's tokens or none, what is left, the stage behind. -/
def part (st : Nat) (R : List Bool) : Except Int (Option (List Tok) × List Bool × Nat) :=
  if st = 0 then
    match rMagic [80, 90, 49] R with
    | .error c => .error c
    | .ok R' => .ok (none, R', 1)
  else match rStep (decide (st = 2)) R with
    | .error c => .error c
    | .ok (none, R') => .ok (none, R', 3)
    | .ok (some ts, R') => .ok (some ts, R', stageOf (made ts))
theorem part_begin_err {R : List Bool} {c : Int} (h : rMagic [80, 90, 49] R = .error c) : part 0 R = .error c := by simp [part, h]
theorem part_begin {R R' : List Bool} (h : rMagic [80, 90, 49] R = .ok R') : part 0 R = .ok (none, R', 1) := by simp [part, h]
theorem part_err {st : Nat} (h0 : st ≠ 0) {R : List Bool} {c : Int} (h : rStep (decide (st = 2)) R = .error c) : part st R = .error c := by unfold part; rw [if_neg h0, h]
theorem part_none {st : Nat} (h0 : st ≠ 0) {R R' : List Bool} (h : rStep (decide (st = 2)) R = .ok (none, R')) : part st R = .ok (none, R', 3) := by unfold part; rw [if_neg h0, h]
theorem part_some {st : Nat} (h0 : st ≠ 0) {R R' : List Bool} {ts : List Tok} (h : rStep (decide (st = 2)) R = .ok (some ts, R')) : part st R = .ok (some ts, R', stageOf (made ts)) := by unfold part; rw [if_neg h0, h]
theorem part_more (X : List Bool) (hX : X.length % 8 = 0) {st st' : Nat} {R R' : List Bool} {o : Option (List Tok)} (h : part st R = .ok (o, R', st')) : part st (R ++ X) = .ok (o, R' ++ X, st') := by
  by_cases h0 : st = 0
  · subst h0
    rcases hm : rMagic [80, 90, 49] R with c | R1
    · rw [part_begin_err hm] at h; cases h
    · rw [part_begin hm] at h
      simp at h
      obtain ⟨rfl, rfl, rfl⟩ := h
      exact part_begin (rMagic_more X _ R R1 hm)
  · rcases hs : rStep (decide (st = 2)) R with c | ⟨_ | ts, R1⟩
    · rw [part_err h0 hs] at h; cases h
    · rw [part_none h0 hs] at h
      simp at h
      obtain ⟨rfl, rfl, rfl⟩ := h
      exact part_none h0 (rStep_more X hX hs)
    · rw [part_some h0 hs] at h
      simp at h
      obtain ⟨rfl, rfl, rfl⟩ := h
      exact part_some h0 (rStep_more X hX hs)
theorem part_more_err (X : List Bool) (hX : X.length % 8 = 0) {st : Nat} {R : List Bool} {c : Int} (h : part st R = .error c) (hc : c ≠ 4) : part st (R ++ X) = .error c := by
  by_cases h0 : st = 0
  · subst h0
    rcases hm : rMagic [80, 90, 49] R with c' | R1
    · rw [part_begin_err hm] at h
      simp at h
      subst h
      exact part_begin_err (rMagic_err X _ R c' hm hc)
    · rw [part_begin hm] at h; cases h
  · rcases hs : rStep (decide (st = 2)) R with c' | ⟨_ | ts, R1⟩
    · rw [part_err h0 hs] at h
      simp at h
      subst h
      exact part_err h0 (rStep_more_err X hX hs hc)
    · rw [part_none h0 hs] at h; cases h
    · rw [part_some h0 hs] at h; cases h

/-- Part by part, from a stage on: the frames that were read, the stage behind them, what is left. -/
inductive Runs : Nat → List Bool → List (List Tok × List UInt8) → Nat → List Bool → Prop
  | stay (st : Nat) (R : List Bool) : Runs st R [] st R
  | none {st st1 st2 : Nat} {R R1 R2 : List Bool} {fs : List (List Tok × List UInt8)} (h3 : st ≠ 3) (hp : part st R = .ok (none, R1, st1)) (hl : R1.length ≤ R.length ∧ R1.length % 8 = 0) (hr : Runs st1 R1 fs st2 R2) : Runs st R fs st2 R2
  | some {st st1 st2 : Nat} {R R1 R2 : List Bool} {ts : List Tok} {fs : List (List Tok × List UInt8)} (h3 : st ≠ 3) (hp : part st R = .ok (some ts, R1, st1)) (hl : R1.length < R.length ∧ R1.length % 8 = 0) (h1 : 1 ≤ (made ts).length) (h64 : (made ts).length ≤ 64) (hr : Runs st1 R1 fs st2 R2) : Runs st R ((ts, made ts) :: fs) st2 R2
/-- Here it stops, with this error, or none. -/
def Stops (st : Nat) (R : List Bool) (e : Int) : Prop := (st = 3 ∧ ((R = [] ∧ e = 0) ∨ (R ≠ [] ∧ e = 9))) ∨ (st ≠ 3 ∧ part st R = .error e)
theorem Runs.trans {st st1 st2 : Nat} {R R1 R2 : List Bool} {fs gs : List (List Tok × List UInt8)} (h : Runs st R fs st1 R1) (k : Runs st1 R1 gs st2 R2) : Runs st R (fs ++ gs) st2 R2 := by
  induction h with
  | stay => exact k
  | none h3 hp hl _ ih => exact .none h3 hp hl (ih k)
  | some h3 hp hl h1 h64 _ ih => exact .some h3 hp hl h1 h64 (ih k)
theorem Runs.more (X : List Bool) (hX : X.length % 8 = 0) {st st1 : Nat} {R R1 : List Bool} {fs : List (List Tok × List UInt8)} (h : Runs st R fs st1 R1) : Runs st (R ++ X) fs st1 (R1 ++ X) := by
  induction h with
  | stay => exact .stay _ _
  | none h3 hp hl _ ih => exact .none h3 (part_more X hX hp) (by simp only [List.length_append]; omega) ih
  | some h3 hp hl h1 h64 _ ih => exact .some h3 (part_more X hX hp) (by simp only [List.length_append]; omega) h1 h64 ih
theorem Runs.ended {R R1 : List Bool} {st : Nat} {fs : List (List Tok × List UInt8)} (h : Runs 3 R fs st R1) : st = 3 ∧ fs = [] ∧ R1 = R := by
  cases h with
  | stay => exact ⟨rfl, rfl, rfl⟩
  | none h3 => exact absurd rfl h3
  | some h3 => exact absurd rfl h3
theorem Stops.more (X : List Bool) (hX : X.length % 8 = 0) {st : Nat} {R : List Bool} {e : Int} (h : Stops st R e) (h0 : e ≠ 0) (h4 : e ≠ 4) : Stops st (R ++ X) e := by
  rcases h with ⟨rfl, ⟨_, h⟩ | ⟨h1, h⟩⟩ | ⟨h3, h⟩
  · exact absurd h h0
  · exact .inl ⟨rfl, .inr ⟨fun e => h1 (by simp at e; exact e.1), h⟩⟩
  · exact .inr ⟨h3, part_more_err X hX h h4⟩
/-- From a frame on it is what the reader of frames tells. -/
theorem Runs.main {L : List Bool} {e : Int} {st st' : Nat} {R R' : List Bool} {fs : List (List Tok × List UInt8)} (h : Runs st R fs st' R') : ∀ (f : Nat) (ps : List (List Tok)) (data : List UInt8) (ends : List Nat), Stops st' R' e → st = 1 ∨ st = 2 → decide (data.length ≠ 64 * ps.length) = decide (st = 2) → R.length + 1 ≤ f →
    ∃ ends', rMain L f ps data ends R = (e, ps ++ psOf fs, data ++ dataOf fs, ends') := by
  induction h with
  | stay st R =>
    intro f ps data ends hs hst hd hf
    obtain ⟨f, rfl⟩ : ∃ f', f = f' + 1 := ⟨f - 1, by omega⟩
    rcases hs with ⟨h3, _⟩ | ⟨_, hp⟩
    · omega
    · rw [rMain_step, hd]
      rcases hx : rStep (decide (st = 2)) R with c' | ⟨_ | ts, R1⟩
      · rw [part_err (by omega) hx] at hp
        simp at hp
        subst hp
        exact ⟨ends, by simp⟩
      · rw [part_none (by omega) hx] at hp; cases hp
      · rw [part_some (by omega) hx] at hp; cases hp
  | @none st st1 st2 R R1 R2 fs h3 hp hl hr ih =>
    intro f ps data ends hs hst hd hf
    obtain ⟨f, rfl⟩ : ∃ f', f = f' + 1 := ⟨f - 1, by omega⟩
    rcases hx : rStep (decide (st = 2)) R with c' | ⟨_ | ts, R1'⟩
    · rw [part_err (by omega) hx] at hp; cases hp
    · rw [part_none (by omega) hx] at hp
      simp at hp
      obtain ⟨rfl, rfl⟩ := hp
      obtain ⟨rfl, rfl, rfl⟩ := hr.ended
      rw [rMain_step, hd, hx]
      rcases hs with ⟨_, ⟨rfl, rfl⟩ | ⟨h1, rfl⟩⟩ | ⟨h, _⟩
      · exact ⟨ends, by simp⟩
      · exact ⟨ends, by simp [List.length_pos_iff.2 h1]⟩
      · exact absurd rfl h
    · rw [part_some (by omega) hx] at hp; cases hp
  | @some st st1 st2 R R1 R2 ts fs h3 hp hl h1 h64 hr ih =>
    intro f ps data ends hs hst hd hf
    obtain ⟨f, rfl⟩ : ∃ f', f = f' + 1 := ⟨f - 1, by omega⟩
    rcases hx : rStep (decide (st = 2)) R with c' | ⟨_ | ts', R1'⟩
    · rw [part_err (by omega) hx] at hp; cases hp
    · rw [part_none (by omega) hx] at hp; cases hp
    · have hst1 : st = 1 := by
        rcases hst with h | h
        · exact h
        · subst h
          exact absurd hx (rStep_short _ _ _)
      rw [part_some (by omega) hx] at hp
      simp at hp
      obtain ⟨rfl, rfl, rfl⟩ := hp
      subst hst1
      have hdl : data.length = 64 * ps.length := by simpa using hd
      obtain ⟨ends', hE⟩ := ih f (ps ++ [ts']) (data ++ made ts') (ends ++ [(L.length - R1'.length) / 8]) hs (by unfold stageOf; split <;> simp) (by
        unfold stageOf
        rw [List.length_append, List.length_append, hdl]
        simp only [List.length_cons, List.length_nil]
        split
        · rw [decide_eq_true (by omega)]; rfl
        · rw [decide_eq_false (by omega)]; rfl) (by omega)
      refine ⟨ends', ?_⟩
      rw [rMain_step, hd, hx]
      simp only
      rw [hE]
      simp [dataOf]
/-- From the beginning on it is what is read of the bytes. -/
theorem Runs.read {l : List UInt8} {e : Int} {st : Nat} {R : List Bool} {fs : List (List Tok × List UInt8)} (h : Runs 0 (bitsIn l) fs st R) (hs : Stops st R e) (hl : l.length ≤ 4096) : ∃ ends, rRead l = (e, psOf fs, dataOf fs, ends) := by
  have e0 : rRead l = (match rMagic [80, 90, 49] (bitsIn l) with
      | .error c => (c, [], [], [])
      | .ok R => rMain (bitsIn l) ((bitsIn l).length + 1) [] [] [] R) := if_neg (by omega)
  rw [e0]
  rcases hm : rMagic [80, 90, 49] (bitsIn l) with c' | R1'
  · cases h with
    | stay =>
      rcases hs with ⟨h3, _⟩ | ⟨_, hp⟩
      · omega
      · rw [part_begin_err hm] at hp
        simp at hp
        subst hp
        exact ⟨[], by simp⟩
    | none h3 hp => rw [part_begin_err hm] at hp; cases hp
    | some h3 hp => rw [part_begin_err hm] at hp; cases hp
  · cases h with
    | stay =>
      rcases hs with ⟨h3, _⟩ | ⟨_, hp⟩
      · omega
      · rw [part_begin hm] at hp; cases hp
    | none h3 hp hle hr =>
      rw [part_begin hm] at hp
      simp at hp
      obtain ⟨rfl, rfl⟩ := hp
      have := hr.main (L := bitsIn l) ((bitsIn l).length + 1) [] [] [] hs (.inl rfl) rfl (by omega)
      simpa using this
    | some h3 hp => rw [part_begin hm] at hp; cases hp
end Go.Proofs.YtnpnaglgllcpfaaGreat
