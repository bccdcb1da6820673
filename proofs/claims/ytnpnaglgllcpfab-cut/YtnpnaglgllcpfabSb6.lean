/-
  What the program's reader of frames does to memory: the first three bytes; the frames.
-/
import Derived.Test.YtnpnaglgllcpfabSb5
namespace Go.Proofs.Ytnpnaglgllcpfab
set_option maxRecDepth 100000
open Go.RowKit

/-- How readBegin ends. -/
def BegAns (w w' : World) (q : Nat) (a : Option Addr) (l : List UInt8) (cap : Nat) (r : Ending) : Prop :=
  OneKept w w' q ∧ ((∃ c m, rMagic [80, 90, 49] (bitsIn l) = .error c ∧ c ≠ 0 ∧ m ≤ (bitsIn l).length ∧ r = .returned (.int .i64 c) ∧ RdrAt w' q a l cap m) ∨
    (rMagic [80, 90, 49] (bitsIn l) = .ok ((bitsIn l).drop 24) ∧ 24 ≤ (bitsIn l).length ∧ r = .returned (.int .i64 0) ∧ RdrAt w' q a l cap 24))

theorem magic_step {L : List Bool} {k b : Nat} {bs : List Nat} (hk : ([80, 90, 49] : List Nat).drop k = b :: bs) (heq : rMagic [80, 90, 49] L = rMagic ([80, 90, 49].drop k) (L.drop (8 * k))) :
    (L.length < 8 * k + 8 → rMagic [80, 90, 49] L = .error 4) ∧ (8 * k + 8 ≤ L.length → (valB ((L.drop (8 * k)).take 8) = b → rMagic [80, 90, 49] L = rMagic ([80, 90, 49].drop (k + 1)) (L.drop (8 * (k + 1)))) ∧ (valB ((L.drop (8 * k)).take 8) ≠ b → rMagic [80, 90, 49] L = .error 3)) := by
  rw [hk] at heq
  replace heq := heq.trans (show rMagic (b :: bs) (L.drop (8 * k)) = if (L.drop (8 * k)).length < 8 then .error 4 else if valB ((L.drop (8 * k)).take 8) = b then rMagic bs ((L.drop (8 * k)).drop 8) else .error 3 from rfl)
  refine ⟨fun h => ?_, fun h => ⟨fun hv => ?_, fun hv => ?_⟩⟩
  · rw [heq, if_pos (by rw [List.length_drop]; omega)]
  · rw [heq, if_neg (by rw [List.length_drop]; omega), if_pos hv, List.drop_drop, magic_at k b bs hk]; rfl
  · rw [heq, if_neg (by rw [List.length_drop]; omega), if_neg hv]

set_option maxHeartbeats 1000000 in
theorem readBegin_calls (q : Nat) (a : Option Addr) (l : List UInt8) (cap : Nat) (w : World) (h : RdrAt w q a l cap 0) (hl : l.length ≤ 4096) :
    Calls Try.prog 76 #[.pointer (some ⟨q, 0, none⟩)] w fun r w' => BegAns w w' q a l cap r := by
  have HR : Hid (RdrAt w q a l cap 0) := h
  clear h
  go_enter Try.func76, Try.ntmps76
  go_wp2_with fail
  go_loopw [3] (fun i wr => ∃ k : Nat, k ≤ 3 ∧ 8 * k ≤ (bitsIn l).length ∧ i = .int .i64 k ∧ Hid (RdrAt wr q a l cap (8 * k)) ∧ Hid (OneKept w wr q) ∧ Hid (rMagic [80, 90, 49] (bitsIn l) = rMagic ([80, 90, 49].drop k) ((bitsIn l).drop (8 * k)))) (fun i _ => 3 - (intOf i).toNat)
  case atStart => exact ⟨0, by omega, by omega, rfl, HR, OneKept.refl _ _, rfl⟩
  case round =>
    obtain ⟨k, hk, hk8, rfl, hr, ho, heq⟩ := hrel
    rcases (show k = 0 ∨ k = 1 ∨ k = 2 ∨ k = 3 by omega) with rfl | rfl | rfl | rfl
    case inr.inr.inr =>
      have HE : Hid (rMagic [80, 90, 49] (bitsIn l) = .ok ((bitsIn l).drop 24)) := heq.out
      go_wp2
      go_ret
      exact ⟨ho.out, .inr ⟨HE.out, hk8, rfl, hr.out⟩⟩
    case inl =>
      have HS : Hid _ := magic_step (k := 0) (b := 80) (bs := [90, 49]) rfl heq.out
      go_wp2_with fail
      refine (byteR_calls q a l cap (8 * 0) _ hr.out hl hk8).mono ?_
      rintro r w1 ⟨ho1, ⟨h1, rfl, m, hm, hr1⟩ | ⟨h1, rfl, hr1⟩⟩
      · have HO1 : Hid (OneKept w w1 q) := ho.out.trans ho1
        have HR1 : Hid (RdrAt w1 q a l cap m) := hr1
        have HE : Hid _ := HS.out.1 h1
        clear ho1 hr1 HS
        go_wp2
        go_ret
        exact ⟨HO1.out, .inl ⟨4, m, HE.out, by decide, hm, rfl, HR1.out⟩⟩
      · have HO1 : Hid (OneKept w w1 q) := ho.out.trans ho1
        have HR1 : Hid (RdrAt w1 q a l cap (8 * 0 + 8)) := hr1
        have HSS : Hid _ := HS.out.2 h1
        clear ho1 hr1 HS
        rw [digB_zero]
        generalize valB (((bitsIn l).drop (8 * 0)).take 8) = x at *
        have hw : wrap64 ((((⟨#[80, 90, 49]⟩ : ByteArray)[0]'(by decide)).toNat : Nat) : Int) = 80 := (show wrap64 ((80 : Nat) : Int) = 80 from IntWalk.wrap64_in _ ⟨by omega, by omega⟩)
        by_cases hx : x = 80
        · have HE : Hid _ := HSS.out.1 hx
          have hxb : ((x : Int) != wrap64 ((((⟨#[80, 90, 49]⟩ : ByteArray)[0]'(by decide)).toNat : Nat) : Int)) = false := by rw [hw]; simp; omega
          clear HSS hw hx
          go_wp2
          go_roundw
          case rel => exact ⟨0 + 1, by omega, by omega, by go_num, HR1.out, HO1.out, HE.out⟩
          case measure => simp [intOf]
        · have HE : Hid _ := HSS.out.2 hx
          have hxb : ((x : Int) != wrap64 ((((⟨#[80, 90, 49]⟩ : ByteArray)[0]'(by decide)).toNat : Nat) : Int)) = true := by rw [hw]; simp; omega
          clear HSS hw hx
          go_wp2
          go_ret
          exact ⟨HO1.out, .inl ⟨3, _, HE.out, by decide, h1, rfl, HR1.out⟩⟩
    case inr.inl =>
      have HS : Hid _ := magic_step (k := 1) (b := 90) (bs := [49]) rfl heq.out
      go_wp2_with fail
      refine (byteR_calls q a l cap (8 * 1) _ hr.out hl hk8).mono ?_
      rintro r w1 ⟨ho1, ⟨h1, rfl, m, hm, hr1⟩ | ⟨h1, rfl, hr1⟩⟩
      · have HO1 : Hid (OneKept w w1 q) := ho.out.trans ho1
        have HR1 : Hid (RdrAt w1 q a l cap m) := hr1
        have HE : Hid _ := HS.out.1 h1
        clear ho1 hr1 HS
        go_wp2
        go_ret
        exact ⟨HO1.out, .inl ⟨4, m, HE.out, by decide, hm, rfl, HR1.out⟩⟩
      · have HO1 : Hid (OneKept w w1 q) := ho.out.trans ho1
        have HR1 : Hid (RdrAt w1 q a l cap (8 * 1 + 8)) := hr1
        have HSS : Hid _ := HS.out.2 h1
        clear ho1 hr1 HS
        rw [digB_zero]
        generalize valB (((bitsIn l).drop (8 * 1)).take 8) = x at *
        have hw : wrap64 ((((⟨#[80, 90, 49]⟩ : ByteArray)[1]'(by decide)).toNat : Nat) : Int) = 90 := (show wrap64 ((90 : Nat) : Int) = 90 from IntWalk.wrap64_in _ ⟨by omega, by omega⟩)
        by_cases hx : x = 90
        · have HE : Hid _ := HSS.out.1 hx
          have hxb : ((x : Int) != wrap64 ((((⟨#[80, 90, 49]⟩ : ByteArray)[1]'(by decide)).toNat : Nat) : Int)) = false := by rw [hw]; simp; omega
          clear HSS hw hx
          go_wp2
          go_roundw
          case rel => exact ⟨1 + 1, by omega, by omega, by go_num, HR1.out, HO1.out, HE.out⟩
          case measure => simp [intOf]
        · have HE : Hid _ := HSS.out.2 hx
          have hxb : ((x : Int) != wrap64 ((((⟨#[80, 90, 49]⟩ : ByteArray)[1]'(by decide)).toNat : Nat) : Int)) = true := by rw [hw]; simp; omega
          clear HSS hw hx
          go_wp2
          go_ret
          exact ⟨HO1.out, .inl ⟨3, _, HE.out, by decide, h1, rfl, HR1.out⟩⟩
    case inr.inr.inl =>
      have HS : Hid _ := magic_step (k := 2) (b := 49) (bs := []) rfl heq.out
      go_wp2_with fail
      refine (byteR_calls q a l cap (8 * 2) _ hr.out hl hk8).mono ?_
      rintro r w1 ⟨ho1, ⟨h1, rfl, m, hm, hr1⟩ | ⟨h1, rfl, hr1⟩⟩
      · have HO1 : Hid (OneKept w w1 q) := ho.out.trans ho1
        have HR1 : Hid (RdrAt w1 q a l cap m) := hr1
        have HE : Hid _ := HS.out.1 h1
        clear ho1 hr1 HS
        go_wp2
        go_ret
        exact ⟨HO1.out, .inl ⟨4, m, HE.out, by decide, hm, rfl, HR1.out⟩⟩
      · have HO1 : Hid (OneKept w w1 q) := ho.out.trans ho1
        have HR1 : Hid (RdrAt w1 q a l cap (8 * 2 + 8)) := hr1
        have HSS : Hid _ := HS.out.2 h1
        clear ho1 hr1 HS
        rw [digB_zero]
        generalize valB (((bitsIn l).drop (8 * 2)).take 8) = x at *
        have hw : wrap64 ((((⟨#[80, 90, 49]⟩ : ByteArray)[2]'(by decide)).toNat : Nat) : Int) = 49 := (show wrap64 ((49 : Nat) : Int) = 49 from IntWalk.wrap64_in _ ⟨by omega, by omega⟩)
        by_cases hx : x = 49
        · have HE : Hid _ := HSS.out.1 hx
          have hxb : ((x : Int) != wrap64 ((((⟨#[80, 90, 49]⟩ : ByteArray)[2]'(by decide)).toNat : Nat) : Int)) = false := by rw [hw]; simp; omega
          clear HSS hw hx
          go_wp2
          go_roundw
          case rel => exact ⟨2 + 1, by omega, by omega, by go_num, HR1.out, HO1.out, HE.out⟩
          case measure => simp [intOf]
        · have HE : Hid _ := HSS.out.2 hx
          have hxb : ((x : Int) != wrap64 ((((⟨#[80, 90, 49]⟩ : ByteArray)[2]'(by decide)).toNat : Nat) : Int)) = true := by rw [hw]; simp; omega
          clear HSS hw hx
          go_wp2
          go_ret
          exact ⟨HO1.out, .inl ⟨3, _, HE.out, by decide, h1, rfl, HR1.out⟩⟩

/-- What is read of frames, step by step. -/
theorem rMain_step (L : List Bool) (f : Nat) (ps : List (List Tok)) (data : List UInt8) (ends : List Nat) (R : List Bool) :
    rMain L (f + 1) ps data ends R = (match rStep (decide (data.length ≠ 64 * ps.length)) R with
      | .error c => (c, ps, data, ends)
      | .ok (none, R1) => ((if 0 < R1.length then 9 else 0), ps, data, ends)
      | .ok (some ts, R2) => rMain L f (ps ++ [ts]) (data ++ made ts) (ends ++ [(L.length - R2.length) / 8]) R2) := by
  simp only [rMain, rStep]
  rcases hn : rNum 5 0 R with c | ⟨v, R1⟩
  · rfl
  · simp only
    by_cases hv : v = 1
    · simp only [if_pos hv]
      cases hp : padB R1 with
      | false => simp
      | true => simp
    · simp only [if_neg hv, decide_eq_true_eq]
      by_cases hb : 64 < v - 1 ∨ data.length ≠ 64 * ps.length
      · simp only [if_pos hb]
      · simp only [if_neg hb]
        rcases hf : rFrame (v - 1) R1 with c | ⟨ts, R2⟩
        · rfl
        · rfl

/-- These cells are frames', each with tokens and bytes that are the call's own. -/
def InnerAt (w : World) (B : Nat) (vs : List Value) (fs : List (List Tok × List UInt8)) : Prop :=
  ∀ i, i < fs.length → ∃ a c b d, vs[i * 2]? = some (.slice a (fs.getD i ([], [])).1.length c) ∧ vs[i * 2 + 1]? = some (.slice b (fs.getD i ([], [])).2.length d) ∧
    TokRow w B (.slice a (fs.getD i ([], [])).1.length c) (fs.getD i ([], [])).1 ∧ OwnB w B (.slice b (fs.getD i ([], [])).2.length d) (fs.getD i ([], [])).2 ∧ 1 ≤ (fs.getD i ([], [])).2.length
/-- The slice v is the call's own (from block B on) and holds these frames. -/
def FramesAt (w : World) (B : Nat) (v : Value) (fs : List (List Tok × List UInt8)) : Prop :=
  ∃ vs : List Value, w.ownsRow B 73 2 v fs.length vs ∧ InnerAt w B vs fs
theorem InnerAt.nil (w : World) (B : Nat) : InnerAt w B [] [] := fun i hi => by simp at hi
theorem row_grown {w w' : World} {B n z : Nat} {e : TypeId} {v : Value} {xs : List Value} {row : Option Nat} (h : w.ownsRow B e z v n xs) (hg : w.grownBy w' row) (hr : ∀ k, row = some k → k < B) : w'.ownsRow B e z v n xs := by
  refine World.ownsRow.kept h hg ?_
  rcases hv : v.ownBlock with _ | k
  · exact .inl rfl
  · refine .inr (fun e => ?_)
    have h1 := (World.ownsRow.lt h k hv).1
    have h2 := hr k e.symm
    omega
theorem OneKept.grown {w w' : World} {q : Nat} (hk : OneKept w w' q) : w.grownBy w' (some q) := ⟨hk.os, hk.tape, hk.output, hk.size, fun k hk' hne => hk.heap k hk' (fun e => hne (by rw [e]))⟩
theorem row_one {w w' : World} {B n z q : Nat} {e : TypeId} {v : Value} {xs : List Value} (h : w.ownsRow B e z v n xs) (hk : OneKept w w' q) (hq : q < B) : w'.ownsRow B e z v n xs :=
  row_grown h hk.grown (fun k e => by simp at e; omega)
theorem InnerAt.one {w w' : World} {B q : Nat} {vs : List Value} {fs : List (List Tok × List UInt8)} (h : InnerAt w B vs fs) (hk : OneKept w w' q) (hq : q < B) : InnerAt w' B vs fs := fun i hi => by
  obtain ⟨a, c, b, d, h1, h2, h3, h4, h5⟩ := h i hi
  exact ⟨a, c, b, d, h1, h2, row_one h3 hk hq, row_one h4 hk hq, h5⟩
theorem row_below {w w' : World} {B n z : Nat} {e : TypeId} {v : Value} {xs : List Value} (h : w.ownsRow B e z v n xs) (hb : Below w.heap.size w w') : w'.ownsRow B e z v n xs :=
  row_grown h (row := none) ⟨hb.os, hb.tape, hb.output, hb.size, fun k hk _ => hb.block k hk⟩ (fun k e => by cases e)
theorem InnerAt.below {w w' : World} {B : Nat} {vs : List Value} {fs : List (List Tok × List UInt8)} (h : InnerAt w B vs fs) (hb : Below w.heap.size w w') : InnerAt w' B vs fs := fun i hi => by
  obtain ⟨a, c, b, d, h1, h2, h3, h4, h5⟩ := h i hi
  exact ⟨a, c, b, d, h1, h2, row_below h3 hb, row_below h4 hb, h5⟩
theorem FramesAt.below {w w' : World} {B : Nat} {v : Value} {fs : List (List Tok × List UInt8)} (h : FramesAt w B v fs) (hb : Below w.heap.size w w') : FramesAt w' B v fs := by
  obtain ⟨vs, h1, h2⟩ := h
  exact ⟨vs, row_below h1 hb, h2.below hb⟩
/-- A row that is owned, and a box of another type. -/
theorem row_set {w : World} {B n z p i : Nat} {e t : TypeId} {v u : Value} {xs : List Value} {cs : Array Value} {m : Nat × Nat} (h : w.ownsRow B e z v n xs) (hx : w.heap[p]? = some (.cells cs t m)) (hne : e ≠ t) : (w.setCell ⟨p, i, none⟩ u).ownsRow B e z v n xs := by
  refine ⟨h.1, ?_⟩
  rcases h.2 with h' | ⟨g, cap, cur, h1, h2, hg, r⟩
  · exact .inl h'
  · refine .inr ⟨g, cap, cur, h1, h2, ?_, r⟩
    rw [set_other u (fun e' => ?_)]
    · exact hg
    · subst e'
      rw [hg] at hx
      simp at hx
      exact hne hx.2.1
theorem InnerAt.set {w : World} {B p i : Nat} {u : Value} {vs : List Value} {fs : List (List Tok × List UInt8)} {cs : Array Value} {m : Nat × Nat} (h : InnerAt w B vs fs) (hx : w.heap[p]? = some (.cells cs 73 m)) : InnerAt (w.setCell ⟨p, i, none⟩ u) B vs fs := fun j hj => by
  obtain ⟨a, c, b, d, h1, h2, h3, h4, h5⟩ := h j hj
  exact ⟨a, c, b, d, h1, h2, row_set h3 hx (by decide), row_set h4 hx (by decide), h5⟩
theorem row_kept {w w' : World} {B n z : Nat} {e : TypeId} {v x : Value} {xs : List Value} {B' n' z' : Nat} {e' : TypeId} {xs' : List Value} (h : w.ownsRow B e z v n xs) (h' : w.ownsRow B' e' z' x n' xs') (hne : e ≠ e') (hg : w.grownBy w' x.ownBlock) : w'.ownsRow B e z v n xs :=
  World.ownsRow.kept h hg (own_ne h h' hne)
/-- The frames behind one more. -/
theorem InnerAt.snoc {w w' : World} {B B0 : Nat} {v : Value} {fs : List (List Tok × List UInt8)} {vs : List Value} {a b : Option Addr} {c d : Nat} {ts : List Tok} {out : List UInt8}
    (ho : w.ownsRow B0 73 2 v fs.length vs) (hf : InnerAt w B vs fs) (hT : TokRow w B (.slice a ts.length c) ts) (hB : OwnB w B (.slice b out.length d) out) (h1o : 1 ≤ out.length)
    (hg : w.grownBy w' v.ownBlock) : InnerAt w' B (vs ++ [.slice a ts.length c, .slice b out.length d]) (fs ++ [(ts, out)]) := by
  have hvl : vs.length = fs.length * 2 := ho.1
  have hn1 : 60 ≠ 73 := by decide
  have hn2 : 5 ≠ 73 := by decide
  intro i hi
  simp only [List.length_append, List.length_cons, List.length_nil] at hi
  rcases Nat.lt_or_ge i fs.length with h | h
  · obtain ⟨a', c', b', d', h1, h2, h3, h4, h5⟩ := hf i h
    have e : (fs ++ [(ts, out)]).getD i ([], []) = fs.getD i ([], []) := by simp [List.getD, List.getElem?_append_left h]
    rw [e]
    refine ⟨a', c', b', d', ?_, ?_, row_kept h3 ho hn1 hg, row_kept h4 ho hn2 hg, h5⟩
    · rw [List.getElem?_append_left (by omega)]; exact h1
    · rw [List.getElem?_append_left (by omega)]; exact h2
  · have hi' : i = fs.length := by omega
    subst hi'
    have e : (fs ++ [(ts, out)]).getD fs.length ([], []) = (ts, out) := by simp [List.getD]
    rw [e]
    refine ⟨a, c, b, d, ?_, ?_, row_kept hT ho hn1 hg, row_kept hB ho hn2 hg, h1o⟩
    · rw [← hvl]; simp
    · rw [← hvl, List.getElem?_append_right (by omega)]; simp
theorem infoFrame : (Try.prog.info? 73).map (fun i => (i.zero, i.size, i.bytes)) = some (some (.agg #[.slice none 0 0, .slice none 0 0]), 2, 48) := by kernel_rfl
end Go.Proofs.Ytnpnaglgllcpfab
