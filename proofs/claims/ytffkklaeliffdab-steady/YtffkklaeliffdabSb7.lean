/-
  What the program's reader of frames does to memory: all frames.
-/
import Derived.Test.YtffkklaeliffdabSb6
namespace Go.Proofs.Ytffkklaeliffdab
set_option maxRecDepth 100000
open Go.RowKit

abbrev psOf (fs : List (List Tok × List UInt8)) : List (List Tok) := fs.map Prod.fst
abbrev dataOf (fs : List (List Tok × List UInt8)) : List UInt8 := (fs.map Prod.snd).flatten

/-- What the last readFrame told, and what is read of all, then. -/
def StepIs (wr : World) (B q : Nat) (a : Option Addr) (l : List UInt8) (cap : Nat) (fs : List (List Tok × List UInt8)) (RES : Int × List (List Tok) × List UInt8 × List Nat) (e : Int) (ao : Option Addr) (nT cp : Nat) (bo : Option Addr) (nB bp : Nat) (g m : Nat) : Prop :=
  m ≤ (bitsIn l).length ∧ RdrAt wr q a l cap m ∧ ((∃ ends, e ≠ 0 ∧ g = 0 ∧ RES = (e, psOf fs, dataOf fs, ends) ∧ nB = 0) ∨
    (∃ ends, e = 0 ∧ g = 0 ∧ m % 8 = 0 ∧ RES = ((if m < (bitsIn l).length then 9 else 0), psOf fs, dataOf fs, ends) ∧ nB = 0) ∨
    (∃ ends f ts out, e = 0 ∧ g = (bitsIn l).length + 1 - m ∧ m % 8 = 0 ∧ nT = ts.length ∧ nB = out.length ∧ TokRow wr B (.slice ao ts.length cp) ts ∧ OwnB wr B (.slice bo out.length bp) out ∧ 1 ≤ out.length ∧ out.length ≤ 64 ∧ (dataOf fs).length = 64 * fs.length ∧ fs.length + 1 ≤ m / 8 ∧ (bitsIn l).length + 1 ≤ f + m ∧
      RES = rMain (bitsIn l) f (psOf fs ++ [ts]) (dataOf fs ++ out) ends ((bitsIn l).drop m)))

theorem rStep_short (R R2 : List Bool) (ts : List Tok) : rStep true R ≠ .ok (some ts, R2) := by
  unfold rStep
  rcases rNum 5 0 R with c | ⟨v, R1⟩
  · simp
  · simp only
    by_cases hv : v = 1
    · simp only [if_pos hv]
      cases padB R1 <;> simp
    · simp [if_neg hv]

/-- One readFrame tells how it goes on. -/
theorem step_is {w w' : World} {B q : Nat} {a : Option Addr} {l : List UInt8} {cap n f : Nat} {fs : List (List Tok × List UInt8)} {RES : Int × List (List Tok) × List UInt8 × List Nat} {ends : List Nat} {r : Ending}
    (h : FrameRAns w w' q a l cap n (decide ((dataOf fs).length ≠ 64 * fs.length)) r) (hB : B ≤ w.heap.size) (hn8 : n % 8 = 0) (hfs : fs.length ≤ n / 8) (hf : (bitsIn l).length + 1 ≤ f + n) (hn : n ≤ (bitsIn l).length)
    (hRES : RES = rMain (bitsIn l) f (psOf fs) (dataOf fs) ends ((bitsIn l).drop n)) :
    OneKept w w' q ∧ ∃ e ao nT cp bo nB bp g m, r = .returned (.tuple #[.agg #[.slice ao nT cp, .slice bo nB bp], .int .i64 e]) ∧ StepIs w' B q a l cap fs RES e ao nT cp bo nB bp g m ∧ g < (bitsIn l).length + 1 - n := by
  obtain ⟨f, rfl⟩ : ∃ f', f = f' + 1 := ⟨f - 1, by omega⟩
  have hl : (psOf fs).length = fs.length := by simp
  rw [rMain_step, hl] at hRES
  obtain ⟨hk, ⟨c, m, hs, hc, hm, rfl, hr⟩ | ⟨m, hs, hm, h8, rfl, hr⟩ | ⟨ts, out, m, vT, vB, hs, hnm, hm, h8, hex, ho1, ho64, htl, rfl, hT, hO, hr⟩⟩ := h
  · rw [hs] at hRES
    exact ⟨hk, c, none, 0, 0, none, 0, 0, 0, m, rfl, ⟨hm, hr, .inl ⟨ends, hc, rfl, hRES, rfl⟩⟩, by omega⟩
  · rw [hs] at hRES
    refine ⟨hk, 0, none, 0, 0, none, 0, 0, 0, m, rfl, ⟨hm, hr, .inr (.inl ⟨ends, rfl, rfl, h8, ?_, rfl⟩)⟩, by omega⟩
    rw [hRES]
    by_cases hlt : m < (bitsIn l).length
    · simp only [if_pos hlt]
      rw [if_pos (by rw [List.length_drop]; omega)]
    · simp only [if_neg hlt]
      rw [if_neg (by rw [List.length_drop]; omega)]
  · have hd2 : (dataOf fs).length = 64 * fs.length := by
      by_cases hd2 : (dataOf fs).length = 64 * fs.length
      · exact hd2
      · rw [decide_eq_true hd2] at hs
        exact absurd hs (rStep_short _ _ _)
    rw [hs] at hRES
    have hmd : made ts = out := by simp [made, hex]
    obtain ⟨ao, cp, rfl⟩ := hT.form
    obtain ⟨bo, bp, rfl⟩ := hO.form
    refine ⟨hk, 0, ao, _, cp, bo, _, bp, _, m, rfl, ⟨hm, hr, .inr (.inr ⟨ends ++ [((bitsIn l).length - ((bitsIn l).drop m).length) / 8], f, ts, out, rfl, rfl, h8, rfl, rfl, row_le hT hB, row_le hO hB, ho1, ho64, hd2, by omega, by omega, ?_⟩)⟩, by omega⟩
    rw [hRES, ← hmd]

theorem StepIs.moved {wr wr' : World} {B q : Nat} {a : Option Addr} {l : List UInt8} {cap : Nat} {fs : List (List Tok × List UInt8)} {RES : Int × List (List Tok) × List UInt8 × List Nat} {e : Int} {ao : Option Addr} {nT cp : Nat} {bo : Option Addr} {nB bp g m : Nat}
    (h : StepIs wr B q a l cap fs RES e ao nT cp bo nB bp g m) (hR : ∀ m, RdrAt wr q a l cap m → RdrAt wr' q a l cap m) (hrow : ∀ (e : TypeId) (z : Nat) (v : Value) (n : Nat) (xs : List Value), e ≠ 67 → wr.ownsRow B e z v n xs → wr'.ownsRow B e z v n xs) :
    StepIs wr' B q a l cap fs RES e ao nT cp bo nB bp g m := by
  obtain ⟨h1, h2, h3⟩ := h
  refine ⟨h1, hR _ h2, ?_⟩
  rcases h3 with h3 | h3 | ⟨ends, f, ts, out, g1, g2, g3, g4, g5, g6, g7, r⟩
  · exact .inl h3
  · exact .inr (.inl h3)
  · exact .inr (.inr ⟨ends, f, ts, out, g1, g2, g3, g4, g5, hrow _ _ _ _ _ (by decide) g6, hrow _ _ _ _ _ (by decide) g7, r⟩)

theorem cell_new2 (w : World) (x y : Value) (t : TypeId) (j : Nat) (v : Value) (hj : [x, y][j]? = some v) : (w.alloc (.cells #[x, y] t)).cell? ((⟨w.heap.size, 0, none⟩ : Addr).add j) = some v := by
  match j, hj with
  | 0, hj => simp at hj; subst hj; simp [Addr.add]
  | 1, hj => simp at hj; subst hj; simp [Addr.add]

theorem OneKept.setAbove {w w' : World} {q p i : Nat} (h : OneKept w w' q) (hp : w.heap.size ≤ p) (u : Value) : OneKept w (w'.setCell ⟨p, i, none⟩ u) q :=
  ⟨h.os, h.tape, h.output, by rw [set_size]; exact h.size, fun k hk hq => by rw [set_other u (by omega)]; exact h.heap k hk hq⟩
theorem short_is (fs : List (List Tok × List UInt8)) (ts : List Tok) (out : List UInt8) (h : (dataOf fs).length = 64 * fs.length) (ho : out.length ≤ 64) :
    decide ((out.length : Int) < 64) = decide ((dataOf (fs ++ [(ts, out)])).length ≠ 64 * (fs ++ [(ts, out)]).length) := by
  have e : (dataOf (fs ++ [(ts, out)])).length = (dataOf fs).length + out.length := by simp [dataOf]
  rw [e, h]
  simp only [List.length_append, List.length_cons, List.length_nil]
  by_cases hlt : out.length < 64
  · rw [decide_eq_true (by omega), decide_eq_true (by omega)]
  · rw [decide_eq_false (by omega), decide_eq_false (by omega)]

theorem frs_append {w wr w3 : World} {q bx n : Nat} {v : Value} {vs : List Value} {o X : Obj} (hk : OneKept w wr q) (hrow : wr.ownsRow (bx + 1) 67 2 v n vs) (hq : q < w.heap.size) (hbx : w.heap.size ≤ bx) (hx : wr.heap[bx]? = some X) (hg : (wr.alloc o).grownBy w3 v.ownBlock) :
    OneKept w w3 q ∧ w3.heap[bx]? = some X ∧ bx < w3.heap.size ∧ w3.heap[q]? = wr.heap[q]? ∧ wr.heap.size ≤ w3.heap.size := by
  have hz : (wr.alloc o).heap.size = wr.heap.size + 1 := by simp
  have hxl := (Array.getElem?_eq_some_iff.1 hx).1
  have hs := hk.size
  have hown := fun k hk' => World.ownsRow.lt hrow k hk'
  have hsz : wr.heap.size + 1 ≤ w3.heap.size := by have := hg.size; rw [hz] at this; exact this
  have hblk : ∀ k, k ≤ bx → w3.heap[k]? = wr.heap[k]? := fun k h1 => by
    rw [hg.block k (by rw [hz]; omega) (fun e => by have := (hown k e.symm).1; omega), Below.heap_alloc wr o k (by omega)]
  refine ⟨⟨hg.os.trans hk.os, hg.tape.trans hk.tape, hg.output.trans hk.output, by omega, fun k h1 h2 => ?_⟩, ?_, by omega, hblk q (by omega), by omega⟩
  · rw [hblk k (by omega)]
    exact hk.heap k h1 h2
  · rw [hblk bx (Nat.le_refl _)]; exact hx

/-- How readFrames ends. -/
def FramesRAns (w w' : World) (q : Nat) (a : Option Addr) (l : List UInt8) (cap : Nat) (RES : Int × List (List Tok) × List UInt8 × List Nat) (r : Ending) : Prop :=
  OneKept w w' q ∧ ((∃ c m, r = .returned (.tuple #[.slice none 0 0, .int .i64 c]) ∧ c ≠ 0 ∧ m ≤ (bitsIn l).length ∧ RdrAt w' q a l cap m ∧ RES.1 = c) ∨
    ∃ fs v m ends, r = .returned (.tuple #[v, .int .i64 0]) ∧ m ≤ (bitsIn l).length ∧ m % 8 = 0 ∧ RdrAt w' q a l cap m ∧ FramesAt w' w.heap.size v fs ∧ fs.length ≤ 4096 ∧ (dataOf fs).length ≤ 64 * fs.length ∧ RES = ((if m < (bitsIn l).length then 9 else 0), psOf fs, dataOf fs, ends))

set_option maxHeartbeats 2000000 in
theorem readFrames_calls (q : Nat) (a : Option Addr) (l : List UInt8) (cap n f : Nat) (w : World) (h : RdrAt w q a l cap n) (hl : l.length ≤ 4096) (hn : n ≤ (bitsIn l).length) (h8 : n % 8 = 0) (hf : (bitsIn l).length + 1 ≤ f + n) :
    Calls Try.prog 45 #[.pointer (some ⟨q, 0, none⟩)] w fun r w' => FramesRAns w w' q a l cap (rMain (bitsIn l) f [] [] [] ((bitsIn l).drop n)) r := by
  have hlen := bitsIn_length l
  have HR : Hid (RdrAt w q a l cap n) := h
  have hq := h.lt
  have HS0 : Hid (Calls Try.prog 56 #[.pointer (some ⟨q, 0, none⟩), .bool false] w fun r w' => OneKept w w' q ∧ ∃ e ao nT cp bo nB bp g m, r = .returned (.tuple #[.agg #[.slice ao nT cp, .slice bo nB bp], .int .i64 e]) ∧ StepIs w' w.heap.size q a l cap [] (rMain (bitsIn l) f [] [] [] ((bitsIn l).drop n)) e ao nT cp bo nB bp g m ∧ g < (bitsIn l).length + 1 - n) := by
    refine (readFrame_calls q a l cap n false w h hl hn).mono ?_
    intro r w' hans
    exact step_is (fs := []) hans (Nat.le_refl _) h8 (by simp) hf hn rfl
  generalize rMain (bitsIn l) f [] [] [] ((bitsIn l).drop n) = RES at *
  obtain ⟨it, hti, htz0, htz1, htz2⟩ := info_parts infoFrame
  clear h
  go_enter Try.func45, Try.ntmps45
  go_wp2_with fail
  refine (Calls.mono HS0.out ?_)
  rintro r w1 ⟨hk1, e, ao, nT, cp, bo, nB, bp, g, m, rfl, hst, hg⟩
  have HST : Hid (StepIs w1 w.heap.size q a l cap [] RES e ao nT cp bo nB bp g m) := hst
  have HK1 : Hid (OneKept w w1 q) := hk1
  have hs1 := hk1.size
  clear hst hk1 HS0
  have HX : Hid ((w1.alloc (.cells #[.slice ao nT cp, .slice bo nB bp] 67)).heap[w1.heap.size]? = some (.cells #[.slice ao nT cp, .slice bo nB bp] 67 (0, 0))) := heap_alloc_new w1 _
  have HST1 : Hid (StepIs (w1.alloc (.cells #[.slice ao nT cp, .slice bo nB bp] 67)) w.heap.size q a l cap [] RES e ao nT cp bo nB bp g m) :=
    HST.out.moved (fun m hm => hm.below ((Below.refl _ _).alloc (Nat.le_refl _) _)) (fun _ _ _ _ _ _ h => h.alloc _)
  clear HST
  go_wp2_with fail
  generalize hbx : w1.heap.size = bx at *
  have HBX : Hid (w1.heap.size = bx) := hbx
  have hbs : bx < (w1.alloc (.cells #[.slice ao nT cp, .slice bo nB bp] 67)).heap.size := by simp; omega
  have HK2 : Hid (OneKept w (w1.alloc (.cells #[.slice ao nT cp, .slice bo nB bp] 67)) q) := HK1.out.alloc _
  clear hbx HK1
  generalize w1.alloc (.cells #[.slice ao nT cp, .slice bo nB bp] 67) = w2 at *
  go_loopg [4, 5, 7] g (fun g v _ ev wr => ∃ (fs : List (List Tok × List UInt8)) (vs : List Value) (e : Int) (ao : Option Addr) (nT cp : Nat) (bo : Option Addr) (nB bp m : Nat), ev = .int .i64 e ∧ bx < wr.heap.size ∧ Hid (wr.ownsRow (bx + 1) 67 2 v fs.length vs) ∧ Hid (InnerAt wr w.heap.size vs fs) ∧ Hid (OneKept w wr q) ∧ Hid (wr.heap[bx]? = some (.cells #[.slice ao nT cp, .slice bo nB bp] 67 (0, 0))) ∧ Hid (StepIs wr w.heap.size q a l cap fs RES e ao nT cp bo nB bp g m) ∧ fs.length ≤ 4096 ∧ (dataOf fs).length ≤ 64 * fs.length)
  case atStart => exact ⟨[], [], e, ao, nT, cp, bo, nB, bp, m, rfl, hbs, World.ownsRow_nil _ _ _ _, InnerAt.nil _ _, HK2, HX, HST1, by simp, by simp⟩
  case round =>
    clear HX HST1 HK2 hbs
    obtain ⟨fs, vs, e, ao, nT, cp, bo, nB, bp, m, rfl, hbs, HROW, HIN, HK, HX, HST, hfl, hdl⟩ := hrel
    obtain ⟨fo, fc, rfl⟩ := row_form HROW.out
    obtain ⟨⟨x0, x1⟩, y0, y1⟩ := pair_cell HX.out
    obtain ⟨hm, hrd, hst⟩ := HST.out
    have HRD : Hid (RdrAt wr q a l cap m) := hrd
    clear hrd HST
    rcases hst with ⟨ends, he, hg, hres, hnb⟩ | ⟨ends, rfl, hg, hm8, hres, hnb⟩ | ⟨ends, f', ts, out, rfl, hg, hm8, rfl, rfl, hT, hO, ho1, ho64, hd64, hfm, hff, hres⟩
    · have HE : Hid (e ≠ 0) := he
      have heb : (e == 0) = false := beq_eq_false_iff_ne.2 he
      have heb' : (e != 0) = true := by simpa using he
      have HRES : Hid (RES = (e, psOf fs, dataOf fs, ends)) := hres
      have HG : Hid _ := hg
      clear he hres hg
      go_wp2
      go_ret2
      exact ⟨HK.out, .inl ⟨e, m, rfl, HE.out, hm, HRD.out, by rw [HRES.out]⟩⟩
    · have HRES : Hid (RES = ((if m < (bitsIn l).length then 9 else 0), psOf fs, dataOf fs, ends)) := hres
      have HG : Hid _ := hg
      subst hnb
      clear hres hg
      go_wp2
      go_ret2
      exact ⟨HK.out, .inr ⟨fs, _, m, ends, rfl, hm, hm8, HRD.out, ⟨vs, row_le HROW.out (by omega), HIN.out⟩, hfl, hdl, HRES.out⟩⟩
    · have HRES : Hid (RES = rMain (bitsIn l) f' (psOf fs ++ [ts]) (dataOf fs ++ out) ends ((bitsIn l).drop m)) := hres
      have HG : Hid (gk = (bitsIn l).length + 1 - m) := hg
      have HT : Hid (TokRow wr w.heap.size (.slice ao ts.length cp) ts) := hT
      have HO : Hid (OwnB wr w.heap.size (.slice bo out.length bp) out) := hO
      clear hres hg hT hO
      go_wp2_with (at_builtin; refine wpList_append_own _ rfl _ _ 63 rfl (bx + 1) 67 it (.agg #[.slice none 0 0, .slice none 0 0]) 2 48 Try.underlying63 hti htz0 htz1 htz2 rfl (by decide) _ _ _ rfl (World.ownsRow.alloc HROW.out _) ⟨wr.heap.size, 0, none⟩ 1 1 [.slice ao ts.length cp, .slice bo out.length bp] rfl rfl ?b1 ?b2 ?b3 ?b4 ?b5 ?_)
      case b1 => intro j u hj; exact cell_new2 _ _ _ _ j u hj
      case b2 => intro u hu; simp at hu; rcases hu with rfl | rfl <;> rfl
      case b3 => unfold maxLen; omega
      case b4 => omega
      case b5 => first | omega | (simp; omega)
      intro v' w3 hown' hgrow _
      obtain ⟨hk3, hx3, hb3, hq3, hs3⟩ := frs_append HK.out HROW.out hq hs1 HX.out hgrow
      have HK3 : Hid (OneKept w w3 q) := hk3
      have HR3 : Hid (RdrAt w3 q a l cap m) := HR.out.kept hk3 (by rw [hq3]; exact HRD.out.block)
      have HX3 : Hid (w3.heap[bx]? = some (.cells #[.slice ao ts.length cp, .slice bo out.length bp] 67 (0, 0))) := hx3
      have HROW3 : Hid (w3.ownsRow (bx + 1) 67 2 v' (fs ++ [(ts, out)]).length (vs ++ [.slice ao ts.length cp, .slice bo out.length bp])) := by
        show w3.ownsRow _ _ _ _ _ _
        rw [List.length_append]
        exact hown'
      have HIN3 : Hid (InnerAt w3 w.heap.size (vs ++ [.slice ao ts.length cp, .slice bo out.length bp]) (fs ++ [(ts, out)])) :=
        InnerAt.snoc (World.ownsRow.alloc HROW.out _) (HIN.out.below ((Below.refl _ _).alloc (Nat.le_refl _) _)) (TokRow.alloc HT.out _) (OwnB.alloc HO.out _) ho1 hgrow
      have HNX : Hid (Calls Try.prog 56 #[.pointer (some ⟨q, 0, none⟩), .bool (decide ((out.length : Int) < 64))] w3 fun r w' => OneKept w3 w' q ∧ ∃ e ao nT cp bo nB bp g m', r = .returned (.tuple #[.agg #[.slice ao nT cp, .slice bo nB bp], .int .i64 e]) ∧ StepIs w' w.heap.size q a l cap (fs ++ [(ts, out)]) RES e ao nT cp bo nB bp g m' ∧ g < (bitsIn l).length + 1 - m) := by
        show Calls _ _ _ _ _
        rw [short_is fs ts out hd64 ho64]
        refine (readFrame_calls q a l cap m _ w3 HR3.out hl hm).mono ?_
        intro r w' hans
        refine step_is (f := f') (ends := ends) hans hk3.size hm8 (by simp; omega) hff hm ?_
        rw [HRES.out]
        simp [psOf, dataOf]
      obtain ⟨⟨z0, z1⟩, _⟩ := pair_cell hx3
      have hfl2 : (fs ++ [(ts, out)]).length ≤ 4096 := by simp; omega
      have hdl2 : (dataOf (fs ++ [(ts, out)])).length ≤ 64 * (fs ++ [(ts, out)]).length := by
        have e : (dataOf (fs ++ [(ts, out)])).length = (dataOf fs).length + out.length := by simp [dataOf]
        rw [e]
        simp only [List.length_append, List.length_cons, List.length_nil]
        omega
      clear hown' hgrow hk3 hx3 hq3 x0 x1 y0 y1 HROW HIN HK HX HT HO HRD
      generalize fs ++ [(ts, out)] = fs2 at *
      go_wp2_with fail
      refine (Calls.mono HNX.out ?_)
      rintro r w4 ⟨hk4, e4, ao4, nT4, cp4, bo4, nB4, bp4, g4, m4, rfl, hst4, hg4⟩
      have hx4 : w4.heap[bx]? = some (.cells #[.slice ao ts.length cp, .slice bo out.length bp] 67 (0, 0)) := by rw [hk4.heap bx hb3 (by omega)]; exact HX3.out
      have hs4 := hk4.size
      have HST4 : Hid (StepIs w4 w.heap.size q a l cap fs2 RES e4 ao4 nT4 cp4 bo4 nB4 bp4 g4 m4) := hst4
      have HK4 : Hid (OneKept w w4 q) := HK3.out.trans hk4
      have HROW4 : Hid _ := row_one HROW3.out hk4 (by omega)
      have HIN4 : Hid _ := HIN3.out.one hk4 hq
      have HX4 : Hid (w4.heap[bx]? = some (.cells #[.slice ao ts.length cp, .slice bo out.length bp] 67 (0, 0))) := hx4
      obtain ⟨⟨z0, z1⟩, y0, y1⟩ := pair_cell hx4
      clear hk4 hst4 hx4 HNX HROW3 HIN3 HK3 HX3 HR3
      go_wp2
      have hx5 := set_block (i := 1) (set_block (i := 0) HX4.out (.slice ao4 nT4 cp4)) (.slice bo4 nB4 bp4)
      have hk5 : OneKept w ((w4.setCell ⟨bx, 0, none⟩ (.slice ao4 nT4 cp4)).setCell ⟨bx, 1, none⟩ (.slice bo4 nB4 bp4)) q := (HK4.out.setAbove hs1 _).setAbove hs1 _
      go_roundg g4
      case measure => have := HG.out; omega
      case rel =>
        refine ⟨fs2, _, e4, ao4, nT4, cp4, bo4, nB4, bp4, m4, rfl, by rw [set_size, set_size]; omega, ownsRow_setCell_below (ownsRow_setCell_below HROW4.out (by show bx < bx + 1; omega) _) (by show bx < bx + 1; omega) _, InnerAt.set (InnerAt.set HIN4.out HX4.out) (set_block HX4.out _), hk5, ?_, ?_, hfl2, hdl2⟩
        · show _ = _
          rw [hx5]; rfl
        · exact HST4.out.moved (fun m hm => HR.out.kept hk5 (by rw [set_other _ (by omega), set_other _ (by omega)]; exact hm.block)) (fun _ _ _ _ _ hne h => row_set (row_set h HX4.out hne) (set_block HX4.out _) hne)
end Go.Proofs.Ytffkklaeliffdab
