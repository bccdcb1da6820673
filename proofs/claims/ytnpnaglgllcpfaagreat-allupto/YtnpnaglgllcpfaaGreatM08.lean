/-
  Lemmas for the law All: Sb7, Ron, Sb8.
-/
import Derived.Test.YtnpnaglgllcpfaaGreatM07
/- What the program's reader of frames does to memory: one part of a stream. -/
namespace Go.Proofs.YtnpnaglgllcpfaaGreat
set_option maxRecDepth 100000
open Go.RowKit

/-- The stage behind a frame's bytes. -/
theorem behind_calls (ao bo : Option Addr) (nT cp nB bp : Nat) (w : World) (hn : nB ≤ 64) :
    Calls Tryz.prog 118 #[.agg #[.slice ao nT cp, .slice bo nB bp]] w fun r w' => r = .returned (.int .i64 ((if nB = 0 then 3 else if nB < 64 then 2 else 1 : Nat) : Int)) ∧ w' = w.alloc (.cells #[.slice ao nT cp, .slice bo nB bp] 137) := by
  have H : Hid (∀ k : Nat, k = (if nB = 0 then 3 else if nB < 64 then 2 else 1 : Nat) → k = (if nB = 0 then 3 else if nB < 64 then 2 else 1 : Nat)) := fun _ h => h
  generalize hk : (if nB = 0 then 3 else if nB < 64 then 2 else 1 : Nat) = k
  have HK : Hid ((if nB = 0 then 3 else if nB < 64 then 2 else 1 : Nat) = k) := hk
  clear hk H
  rcases Nat.eq_zero_or_pos nB with h0 | h0
  · subst h0
    have hk : k = 3 := by have := HK.out; simp at this; exact this.symm
    subst hk
    clear HK
    go_enter Tryz.func118, Tryz.ntmps118
    go_wp2
    go_ret
    exact ⟨rfl, rfl⟩
  · by_cases h64 : nB < 64
    · have hk : k = 2 := by have := HK.out; rw [if_neg (by omega), if_pos h64] at this; exact this.symm
      subst hk
      have h1 : ¬ (nB : Int) = 0 := by omega
      have h2 : (nB : Int) < 64 := by omega
      clear HK
      go_enter Tryz.func118, Tryz.ntmps118
      go_wp2
      go_ret
      exact ⟨rfl, rfl⟩
    · have hk : k = 1 := by have := HK.out; rw [if_neg (by omega), if_neg h64] at this; exact this.symm
      subst hk
      have h1 : ¬ (nB : Int) = 0 := by omega
      have h2 : ¬ (nB : Int) < 64 := by omega
      clear HK
      go_enter Tryz.func118, Tryz.ntmps118
      go_wp2
      go_ret
      exact ⟨rfl, rfl⟩

/-- How readPart ends. -/
def PartRAns (w w' : World) (q : Nat) (a : Option Addr) (l : List UInt8) (cap n st : Nat) (r : Ending) : Prop :=
  OneKept w w' q ∧ ((∃ c m, part st ((bitsIn l).drop n) = .error c ∧ c ≠ 0 ∧ m ≤ (bitsIn l).length ∧ r = .returned (.tuple #[.agg #[.slice none 0 0, .slice none 0 0], .int .i64 0, .int .i64 c]) ∧ RdrAt w' q a l cap m) ∨
    (∃ m st', part st ((bitsIn l).drop n) = .ok (none, (bitsIn l).drop m, st') ∧ n < m ∧ m ≤ (bitsIn l).length ∧ m % 8 = 0 ∧ (st' = 1 ∨ st' = 3) ∧ r = .returned (.tuple #[.agg #[.slice none 0 0, .slice none 0 0], .int .i64 (st' : Int), .int .i64 0]) ∧ RdrAt w' q a l cap m) ∨
    ∃ ts out m ao nT cp bo bp, part st ((bitsIn l).drop n) = .ok (some ts, (bitsIn l).drop m, stageOf out) ∧ n < m ∧ m ≤ (bitsIn l).length ∧ m % 8 = 0 ∧ made ts = out ∧ 1 ≤ out.length ∧ out.length ≤ 64 ∧ nT = ts.length ∧ r = .returned (.tuple #[.agg #[.slice ao nT cp, .slice bo out.length bp], .int .i64 (stageOf out : Int), .int .i64 0]) ∧ TokRow w' w.heap.size (.slice ao nT cp) ts ∧ OwnB w' w.heap.size (.slice bo out.length bp) out ∧ RdrAt w' q a l cap m)

theorem OneKept.ofBelow {w w' : World} {q : Nat} (h : Below w.heap.size w w') : OneKept w w' q := ⟨h.os, h.tape, h.output, h.size, fun k hk _ => h.block k hk⟩
theorem OneKept.back {w w' : World} {q : Nat} {o : Obj} (h : OneKept (w.alloc o) w' q) : OneKept w w' q := ((OneKept.refl w q).alloc o).trans h

theorem cell_alloc {W : World} {b i : Nat} {v : Value} (h : W.cell? ⟨b, i, none⟩ = some v) (o : Obj) : (W.alloc o).cell? ⟨b, i, none⟩ = some v := by
  rw [((Below.refl _ W).alloc (Nat.le_refl _) o).cell (p := ⟨b, i, none⟩) (World.block_lt_of_cell? W _ h)]; exact h

set_option maxHeartbeats 2000000 in
theorem readPart_calls (q : Nat) (a : Option Addr) (l : List UInt8) (cap n st : Nat) (w : World) (h : RdrAt w q a l cap n) (hl : l.length ≤ 4096) (hn : n ≤ (bitsIn l).length) (hst : st ≤ 2) (h0 : st = 0 → n = 0) :
    Calls Tryz.prog 100 #[.pointer (some ⟨q, 0, none⟩), .int .i64 st] w fun r w' => PartRAns w w' q a l cap n st r := by
  have hlen := bitsIn_length l
  have HR0 : Hid (RdrAt w q a l cap n) := h
  have hq := h.lt
  have hqn : w.heap.size ≠ q := by omega
  have HR : Hid (RdrAt (w.alloc (.cells #[.slice none 0 0, .slice none 0 0] 137)) q a l cap n) := h.below ((Below.refl _ _).alloc (Nat.le_refl _) _)
  clear h
  rcases Nat.eq_zero_or_pos st with hs0 | hs0
  · obtain rfl := h0 hs0
    subst hs0
    clear h0
    go_enter Tryz.func100, Tryz.ntmps100
    go_wp2_with fail
    refine (readBegin_calls q a l cap _ HR.out hl).mono ?_
    rintro r w1 ⟨ho, ⟨c, m, hmg, hc, hm, rfl, hr1⟩ | ⟨hmg, h24, rfl, hr1⟩⟩
    · have HE : Hid (part 0 ((bitsIn l).drop 0) = .error c) := part_begin_err hmg
      have HO : Hid (OneKept _ w1 q) := ho
      have HR1 : Hid (RdrAt w1 q a l cap m) := hr1
      have HC : Hid (c ≠ 0) := hc
      have hcb : (c != 0) = true := by simpa using hc
      clear ho hr1 hmg hc
      have HX1 := tok_box HO.out hqn
      obtain ⟨⟨b0, b1⟩, g0, g1⟩ := pair_cell HX1
      have hzz : w.heap.size < w1.heap.size := (Array.getElem?_eq_some_iff.1 HX1).1
      obtain ⟨r0, r1, r2⟩ := boxF_fin HR0.out HO.out HX1 HR1.out (.slice none 0 0) (.slice none 0 0)
      have R0 : Hid _ := r0
      have R1 : Hid (OneKept _ _ _) := r1
      have R2 : Hid (RdrAt _ _ _ _ _ _) := r2
      clear HX1 r0 r1 r2
      go_wp2
      obtain ⟨r0, r1⟩ := R0.out
      refine bodyPost_ret (v := .tuple #[.agg #[.slice none 0 0, .slice none 0 0], .int .i64 0, .int .i64 c]) (by simp [results, Tryz.results100, go_sem, r0, r1]) rfl ⟨R1.out, .inl ⟨c, m, HE.out, HC.out, hm, rfl, R2.out⟩⟩
    · have HE : Hid (part 0 ((bitsIn l).drop 0) = .ok (none, (bitsIn l).drop 24, 1)) := part_begin hmg
      have HO : Hid (OneKept _ w1 q) := ho
      have HR1 : Hid (RdrAt w1 q a l cap 24) := hr1
      clear ho hr1 hmg
      have HX1 := tok_box HO.out hqn
      obtain ⟨⟨b0, b1⟩, g0, g1⟩ := pair_cell HX1
      have hzz : w.heap.size < w1.heap.size := (Array.getElem?_eq_some_iff.1 HX1).1
      obtain ⟨r0, r1, r2⟩ := boxF_fin HR0.out HO.out HX1 HR1.out (.slice none 0 0) (.slice none 0 0)
      have R0 : Hid _ := r0
      have R1 : Hid (OneKept _ _ _) := r1
      have R2 : Hid (RdrAt _ _ _ _ _ _) := r2
      clear HX1 r0 r1 r2
      go_wp2
      obtain ⟨r0, r1⟩ := R0.out
      refine bodyPost_ret (v := .tuple #[.agg #[.slice none 0 0, .slice none 0 0], .int .i64 1, .int .i64 0]) (by simp [results, Tryz.results100, go_sem, r0, r1]) rfl ⟨R1.out, .inr (.inl ⟨24, 1, HE.out, by omega, h24, by omega, .inl rfl, rfl, R2.out⟩)⟩
  · have hsi : ¬ (st : Int) = 0 := by omega
    have hsn : st ≠ 0 := by omega
    have HB : Hid (∀ b : Bool, b = decide (st = 2) → Calls Tryz.prog 117 #[.pointer (some ⟨q, 0, none⟩), .bool b] (w.alloc (.cells #[.slice none 0 0, .slice none 0 0] 137)) fun r w' => FrameRAns (w.alloc (.cells #[.slice none 0 0, .slice none 0 0] 137)) w' q a l cap n (decide (st = 2)) r) := fun b hb => by
      rw [hb]
      exact readFrame_calls q a l cap n _ _ HR.out hl hn
    clear h0 hs0
    go_enter Tryz.func100, Tryz.ntmps100
    go_wp2_with fail
    refine Calls.mono (HB.out _ ?hb) ?_
    case hb => by_cases h2 : st = 2 <;> simp [h2] <;> omega
    clear HB
    rintro r w1 ⟨ho, ⟨c, m, hs, hc, hm, rfl, hr1⟩ | ⟨m, hs, hnm, hm, h8, rfl, hr1⟩ | ⟨ts, out, m, vT, vB, hs, hnm, hm, h8, hex, ho1, ho64, htl, rfl, hT, hO, hr1⟩⟩
    · have HE : Hid (part st ((bitsIn l).drop n) = .error c) := part_err hsn hs
      have HO : Hid (OneKept _ w1 q) := ho
      have HR1 : Hid (RdrAt w1 q a l cap m) := hr1
      have HC : Hid (c ≠ 0) := hc
      have hcb : (c != 0) = true := by simpa using hc
      clear ho hr1 hs hc
      have HX1 := tok_box HO.out hqn
      obtain ⟨⟨b0, b1⟩, g0, g1⟩ := pair_cell HX1
      have hzz : w.heap.size < w1.heap.size := (Array.getElem?_eq_some_iff.1 HX1).1
      obtain ⟨r0, r1, r2⟩ := boxF_fin HR0.out HO.out HX1 HR1.out (.slice none 0 0) (.slice none 0 0)
      have R0 : Hid _ := r0
      have R1 : Hid (OneKept _ _ _) := r1
      have R2 : Hid (RdrAt _ _ _ _ _ _) := r2
      clear HX1 r0 r1 r2
      go_wp2
      obtain ⟨r0, r1⟩ := R0.out
      refine bodyPost_ret (v := .tuple #[.agg #[.slice none 0 0, .slice none 0 0], .int .i64 0, .int .i64 c]) (by simp [results, Tryz.results100, go_sem, cell_alloc r0, cell_alloc r1]) rfl ⟨R1.out.alloc _, .inl ⟨c, m, HE.out, HC.out, hm, rfl, R2.out.below ((Below.refl _ _).alloc (Nat.le_refl _) _)⟩⟩
    · have HE : Hid (part st ((bitsIn l).drop n) = .ok (none, (bitsIn l).drop m, 3)) := part_none hsn hs
      have HO : Hid (OneKept _ w1 q) := ho
      have HR1 : Hid (RdrAt w1 q a l cap m) := hr1
      clear ho hr1 hs
      have HX1 := tok_box HO.out hqn
      obtain ⟨⟨b0, b1⟩, g0, g1⟩ := pair_cell HX1
      have hzz : w.heap.size < w1.heap.size := (Array.getElem?_eq_some_iff.1 HX1).1
      obtain ⟨r0, r1, r2⟩ := boxF_fin HR0.out HO.out HX1 HR1.out (.slice none 0 0) (.slice none 0 0)
      have R0 : Hid _ := r0
      have R1 : Hid (OneKept _ _ _) := r1
      have R2 : Hid (RdrAt _ _ _ _ _ _) := r2
      clear HX1 r0 r1 r2
      go_wp2_with fail
      go_region_with (go_at_call 118; refine (behind_calls _ _ _ _ _ _ _ (by omega)).mono ?_; rintro e w' ⟨rfl, rfl⟩)
      all_goals
        go_wp2
        obtain ⟨r0, r1⟩ := R0.out
        refine bodyPost_ret (v := .tuple #[.agg #[.slice none 0 0, .slice none 0 0], .int .i64 3, .int .i64 0]) (by simp [results, Tryz.results100, go_sem, cell_alloc (cell_alloc r0 _), cell_alloc (cell_alloc r1 _)]) rfl ⟨(OneKept.drewN ((R1.out.alloc _).alloc _) 1), .inr (.inl ⟨m, 3, HE.out, hnm, hm, h8, .inr rfl, rfl, R2.out.below (below_drewN (((Below.refl _ _).alloc (Nat.le_refl _) _).alloc (by simp) _) 1)⟩)⟩
    · have hmd : made ts = out := by simp [made, hex]
      have HE : Hid (part st ((bitsIn l).drop n) = .ok (some ts, (bitsIn l).drop m, stageOf out)) := by rw [← hmd]; exact part_some hsn hs
      have HO : Hid (OneKept _ w1 q) := ho
      have HR1 : Hid (RdrAt w1 q a l cap m) := hr1
      obtain ⟨ao, cp, rfl⟩ := hT.form
      obtain ⟨bo, bp, rfl⟩ := hO.form
      have HBH : Hid (∀ W, Calls Tryz.prog 118 #[.agg #[.slice ao ts.length cp, .slice bo out.length bp]] W fun r w' => r = .returned (.int .i64 (stageOf out : Int)) ∧ w' = W.alloc (.cells #[.slice ao ts.length cp, .slice bo out.length bp] 137)) := fun W => by
        refine (behind_calls _ _ _ _ _ _ _ ho64).mono ?_
        rintro e w' ⟨rfl, rfl⟩
        exact ⟨by rw [if_neg (by omega)]; rfl, rfl⟩
      have HT : Hid (TokRow w1 w.heap.size (.slice ao ts.length cp) ts) := row_le hT (by simp)
      have HB : Hid (OwnB w1 w.heap.size (.slice bo out.length bp) out) := row_le hO (by simp)
      have HMD : Hid (made ts = out) := hmd
      have hst2 : stageOf out ≤ 2 := by unfold stageOf; split <;> omega
      clear ho hr1 hs hT hO hmd hex
      have HX1 := tok_box HO.out hqn
      obtain ⟨⟨b0, b1⟩, g0, g1⟩ := pair_cell HX1
      have hzz : w.heap.size < w1.heap.size := (Array.getElem?_eq_some_iff.1 HX1).1
      obtain ⟨r0, r1, r2⟩ := boxF_fin HR0.out HO.out HX1 HR1.out (.slice ao ts.length cp) (.slice bo out.length bp)
      have R0 : Hid _ := r0
      have R1 : Hid (OneKept _ _ _) := r1
      have R2 : Hid (RdrAt _ _ _ _ _ _) := r2
      have R3 : Hid (TokRow ((w1.setCell ⟨w.heap.size, 0, none⟩ (.slice ao ts.length cp)).setCell ⟨w.heap.size, 1, none⟩ (.slice bo out.length bp)) w.heap.size (.slice ao ts.length cp) ts) := row_set (row_set HT.out HX1 (by decide)) (set_block HX1 _) (by decide)
      have R4 : Hid (OwnB ((w1.setCell ⟨w.heap.size, 0, none⟩ (.slice ao ts.length cp)).setCell ⟨w.heap.size, 1, none⟩ (.slice bo out.length bp)) w.heap.size (.slice bo out.length bp) out) := row_set (row_set HB.out HX1 (by decide)) (set_block HX1 _) (by decide)
      clear HX1 r0 r1 r2 HT HB
      generalize hSO : stageOf out = so at *
      generalize hnT : ts.length = nT at *
      generalize hnB : out.length = nB at *
      have HSO : Hid _ := hSO
      have HNT : Hid _ := hnT
      have HNB : Hid _ := hnB
      clear hSO hnT hnB
      go_wp2_with fail
      go_region_with (go_at_call 118; refine (HBH.out _).mono ?_; rintro e w' ⟨rfl, rfl⟩)
      all_goals
        go_wp2
        obtain ⟨r0, r1⟩ := R0.out
        refine bodyPost_ret (v := .tuple #[.agg #[.slice ao nT cp, .slice bo nB bp], .int .i64 so, .int .i64 0]) (by simp [results, Tryz.results100, go_sem, cell_alloc (cell_alloc r0 _), cell_alloc (cell_alloc r1 _)]) rfl ⟨(OneKept.drewN ((R1.out.alloc _).alloc _) 1), .inr (.inr ⟨ts, out, m, ao, nT, cp, bo, bp, by rw [HSO.out]; exact HE.out, hnm, hm, h8, HMD.out, by rw [HNB.out]; exact ho1, by rw [HNB.out]; exact ho64, HNT.out.symm, by rw [HNB.out, HSO.out], ?_, ?_, R2.out.below (below_drewN (((Below.refl _ _).alloc (Nat.le_refl _) _).alloc (by simp) _) 1)⟩)⟩
        · exact TokRow.below R3.out (below_drewN (((Below.refl _ _).alloc (Nat.le_refl _) _).alloc (by simp) _) 1)
        · rw [HNB.out]; exact OwnB.below R4.out (below_drewN (((Below.refl _ _).alloc (Nat.le_refl _) _).alloc (by simp) _) 1)
end Go.Proofs.YtnpnaglgllcpfaaGreat

/- What the program's reader of streams tells of bytes in memory, from a stage on. -/
namespace Go.Proofs.YtnpnaglgllcpfaaGreat
set_option maxRecDepth 100000
open Go.RowKit

theorem FramesAt.le {w : World} {B B' : Nat} {v : Value} {fs : List (List Tok × List UInt8)} (h : FramesAt w B v fs) (hb : B' ≤ B) : FramesAt w B' v fs := by
  obtain ⟨vs, h1, h2⟩ := h
  refine ⟨vs, row_le h1 hb, fun i hi => ?_⟩
  obtain ⟨a, c, b, d, g1, g2, g3, g4, g5⟩ := h2 i hi
  exact ⟨a, c, b, d, g1, g2, row_le g3 hb, row_le g4 hb, g5⟩
theorem cell_new2 (w : World) (x y : Value) (t : TypeId) (j : Nat) (v : Value) (hj : [x, y][j]? = some v) : (w.alloc (.cells #[x, y] t)).cell? ((⟨w.heap.size, 0, none⟩ : Addr).add j) = some v := by
  match j, hj with
  | 0, hj => simp at hj; subst hj; simp [Addr.add]
  | 1, hj => simp at hj; subst hj; simp [Addr.add]

theorem cell_new2' (w : World) (k : Nat) (hk : k = w.heap.size) (x y : Value) (t : TypeId) (j : Nat) (v : Value) (hj : [x, y][j]? = some v) : (w.alloc (.cells #[x, y] t)).cell? ((⟨k, 0, none⟩ : Addr).add j) = some v := by
  subst hk; exact cell_new2 w x y t j v hj
/-- Three cells of a box are written. -/
abbrev set3 (W : World) (p : Nat) (x y z : Value) : World := ((W.setCell ⟨p, 0, none⟩ x).setCell ⟨p, 1, none⟩ y).setCell ⟨p, 2, none⟩ z
theorem set3_box {W : World} {p : Nat} {x y z : Value} {t : TypeId} (h : W.heap[p]? = some (.cells #[x, y, z] t (0, 0))) (x' y' z' : Value) : (set3 W p x' y' z').heap[p]? = some (.cells #[x', y', z'] t (0, 0)) :=
  set_block (i := 2) (set_block (i := 1) (set_block (i := 0) h x') y') z'
theorem set3_other {W : World} {p k : Nat} (h : k ≠ p) (x y z : Value) : (set3 W p x y z).heap[k]? = W.heap[k]? := by
  unfold set3
  rw [set_other _ h, set_other _ h, set_other _ h]
theorem set3_size (W : World) (p : Nat) (x y z : Value) : (set3 W p x y z).heap.size = W.heap.size := by simp only [set3, set_size]
theorem set3_row {W : World} {B n z p : Nat} {e : TypeId} {v : Value} {xs : List Value} (h : W.ownsRow B e z v n xs) (hp : p < B) (x y u : Value) : (set3 W p x y u).ownsRow B e z v n xs :=
  ownsRow_setCell_below (ownsRow_setCell_below (ownsRow_setCell_below h (by exact hp) _) (by exact hp) _) (by exact hp) _
theorem set3_inner {W : World} {B p : Nat} {vs : List Value} {fs : List (List Tok × List UInt8)} (h : InnerAt W B vs fs) (hp : p < B) (x y z : Value) : InnerAt (set3 W p x y z) B vs fs := fun j hj => by
  obtain ⟨a, c, b, d, h1, h2, h3, h4, h5⟩ := h j hj
  exact ⟨a, c, b, d, h1, h2, set3_row h3 hp _ _ _, set3_row h4 hp _ _ _, h5⟩
theorem InnerAt.low {W : World} {B p i : Nat} {vs : List Value} {fs : List (List Tok × List UInt8)} (h : InnerAt W B vs fs) (hp : p < B) (x : Value) : InnerAt (W.setCell ⟨p, i, none⟩ x) B vs fs := fun j hj => by
  obtain ⟨a, c, b, d, h1, h2, h3, h4, h5⟩ := h j hj
  exact ⟨a, c, b, d, h1, h2, ownsRow_setCell_below h3 (by exact hp) _, ownsRow_setCell_below h4 (by exact hp) _, h5⟩
theorem set3_below {w W : World} {B p : Nat} (h : Below B w W) (hp : B ≤ p) (x y z : Value) : Below B w (set3 W p x y z) := ((h.setCell hp _).setCell hp _).setCell hp _
/-- A Reader, by its block. -/
theorem rdr_of {w W : World} {q : Nat} {a : Option Addr} {l : List UInt8} {cap n : Nat} (h : BytesAt w a l) (hb : Below w.heap.size w W) (hx : W.heap[q]? = some (.cells #[.slice a l.length cap, .int .i64 n] 168 (0, 0))) (hq : w.heap.size ≤ q) : RdrAt W q a l cap n := by
  refine ⟨hx, bytesAt_below h hb, fun hl b off ha => ?_⟩
  rcases h with h1 | ⟨b', off', h1, h2⟩
  · rw [h1] at hl; simp at hl
  · rw [ha] at h1
    simp at h1
    have hlt : b' < w.heap.size := World.block_lt_of_cell? w _ (h2 0 hl)
    omega
theorem bytesRead8_calls (q : Nat) (a : Option Addr) (l : List UInt8) (cap m : Nat) (w : World) (h : RdrAt w q a l cap (8 * m)) (hl : l.length ≤ 4096) (hm : m ≤ l.length) :
    Calls Tryz.prog 101 #[.pointer (some ⟨q, 0, none⟩)] w fun r w' => r = .returned (.int .i64 (m : Int)) ∧ w' = w := by
  refine (bytesReadR_calls q a l cap (8 * m) w h hl (by rw [bitsIn_length]; omega)).mono ?_
  rintro r w' ⟨rfl, rfl⟩
  exact ⟨by congr 2; omega, rfl⟩

/-- How ReadOn ends. -/
def OnAns (w w' : World) (l : List UInt8) (st : Nat) (r : Ending) : Prop :=
  Below w.heap.size w w' ∧ ∃ fs fo fc st' m e, r = .returned (.tuple #[.agg #[.slice fo fs.length fc, .int .i64 (st' : Nat), .int .i64 ((m : Nat) : Int)], .int .i64 e]) ∧ FramesAt w' w.heap.size (.slice fo fs.length fc) fs ∧ fs.length ≤ 4096 ∧ (dataOf fs).length ≤ 64 * fs.length ∧ m ≤ l.length ∧ st' ≤ 3 ∧ Runs st (bitsIn l) fs st' ((bitsIn l).drop (8 * m)) ∧ Stops st' ((bitsIn l).drop (8 * m)) e

/-- What ReadOn returns. -/
theorem on_fin {w W : World} {B : Nat} {l : List UInt8} {st : Nat} {fs : List (List Tok × List UInt8)} {vs : List Value} {fo : Option Addr} {fc s m : Nat} {e : Int} (hBB : w.heap.size = B) (hx0 : W.heap[B]? = some (.cells #[.slice none 0 0, .int .i64 0, .int .i64 0] 128 (0, 0)))
    (hrow : W.ownsRow (B + 3) 137 2 (.slice fo fs.length fc) fs.length vs) (hin : InnerAt W (B + 3) vs fs) (hbw : Below B w W) (hm : m ≤ l.length) (hs : s ≤ 3) (hl : l.length ≤ 4096) (hfl : fs.length ≤ m) (hdl : (dataOf fs).length ≤ 64 * fs.length) (hrun : Runs st (bitsIn l) fs s ((bitsIn l).drop (8 * m))) (hstop : Stops s ((bitsIn l).drop (8 * m)) e) :
    ((set3 W B (.slice fo fs.length fc) (.int .i64 s) (.int .i64 m)).cell? ⟨B, 0, none⟩ = some (.slice fo fs.length fc) ∧ (set3 W B (.slice fo fs.length fc) (.int .i64 s) (.int .i64 m)).cell? ⟨B, 1, none⟩ = some (.int .i64 s) ∧ (set3 W B (.slice fo fs.length fc) (.int .i64 s) (.int .i64 m)).cell? ⟨B, 2, none⟩ = some (.int .i64 m)) ∧
    OnAns w (set3 W B (.slice fo fs.length fc) (.int .i64 s) (.int .i64 m)) l st (.returned (.tuple #[.agg #[.slice fo fs.length fc, .int .i64 s, .int .i64 m], .int .i64 e])) := by
  have hb := set3_box hx0 (.slice fo fs.length fc) (.int .i64 s) (.int .i64 m)
  refine ⟨(trio_cell hb).1, ?_, fs, fo, fc, s, m, e, rfl, FramesAt.le (B := B + 3) ⟨vs, set3_row hrow (by omega) _ _ _, set3_inner hin (by omega) _ _ _⟩ (by omega), by omega, hdl, hm, hs, hrun, hstop⟩
  rw [hBB]; exact set3_below hbw (Nat.le_refl _) _ _ _

theorem OnAns.below {w W W' : World} {l : List UInt8} {st : Nat} {r : Ending} (h : OnAns w W l st r) (hb : Below W.heap.size W W') : OnAns w W' l st r := by
  obtain ⟨h1, fs, fo, fc, st', m, e, h2, h3, h4⟩ := h
  exact ⟨h1.trans (hb.mono h1.size), fs, fo, fc, st', m, e, h2, h3.below hb, h4⟩

set_option maxHeartbeats 4000000 in
theorem readOn_calls (a : Option Addr) (l : List UInt8) (cap st : Nat) (w : World) (hl : l.length ≤ 4096) (hst : st ≤ 3) (hb : BytesAt w a l) :
    Calls Tryz.prog 79 #[.slice a l.length cap, .int .i64 st] w fun r w' => OnAns w w' l st r := by
  have HB : Hid (BytesAt w a l) := hb
  have hlen := bitsIn_length l
  have HBA : Hid (BytesAt (w.alloc (.cells #[.slice none 0 0, .int .i64 0, .int .i64 0] 128)) a l) := bytesAt_below hb ((Below.refl _ _).alloc (Nat.le_refl _) _)
  obtain ⟨it, hti, htz0, htz1, htz2⟩ := info_parts infoFrame
  clear hb
  go_enter Tryz.func79, Tryz.ntmps79
  go_wp2_with fail
  refine (newReader_calls a l cap _ HBA.out).mono ?_
  rintro r w1 ⟨rfl, hb1, hs1, hr1⟩
  have HX0 : Hid (w1.heap[w.heap.size]? = some (.cells #[.slice none 0 0, .int .i64 0, .int .i64 0] 128 (0, 0))) := by
    show _ = _
    rw [hb1.block _ (by simp)]; exact heap_alloc_new w _
  have HB1 : Hid (Below w.heap.size w w1) := ((Below.refl _ _).alloc (Nat.le_refl _) _).trans (hb1.mono (by simp))
  have hs1' : w1.heap.size = w.heap.size + 2 := by rw [hs1]; simp
  have hq1 : (w.alloc (.cells #[.slice none 0 0, .int .i64 0, .int .i64 0] 128)).heap.size = w.heap.size + 1 := by simp
  rw [hq1] at hr1
  have HR1 : Hid (RdrAt w1 (w.heap.size + 1) a l cap 0) := hr1
  clear hb1 hs1 hr1 hq1
  go_wp2_with fail
  generalize hBB : w.heap.size = B at *
  have HBB : Hid (w.heap.size = B) := hBB
  clear hBB
  have HX0' : Hid ((w1.alloc (.cells #[.slice none 0 0, .int .i64 st, .int .i64 0] 128)).heap[B]? = some (.cells #[.slice none 0 0, .int .i64 0, .int .i64 0] 128 (0, 0))) := by
    show _ = _
    rw [Below.heap_alloc _ _ _ (by omega)]; exact HX0.out
  have HX2 : Hid ((w1.alloc (.cells #[.slice none 0 0, .int .i64 st, .int .i64 0] 128)).heap[B + 2]? = some (.cells #[.slice none 0 0, .int .i64 st, .int .i64 0] 128 (0, 0))) := by
    show _ = _
    rw [← hs1']; exact heap_alloc_new w1 _
  have HR2 : Hid (RdrAt (w1.alloc (.cells #[.slice none 0 0, .int .i64 st, .int .i64 0] 128)) (B + 1) a l cap (8 * 0)) := HR1.out.below ((Below.refl _ _).alloc (Nat.le_refl _) _)
  have HB2 : Hid (Below B w (w1.alloc (.cells #[.slice none 0 0, .int .i64 st, .int .i64 0] 128))) := HB1.out.alloc (by omega) _
  have hs2 : (w1.alloc (.cells #[.slice none 0 0, .int .i64 st, .int .i64 0] 128)).heap.size = B + 3 := by simp; omega
  clear HX0 HR1 HB1 HBA
  generalize w1.alloc (.cells #[.slice none 0 0, .int .i64 st, .int .i64 0] 128) = w2 at *
  go_loopg [8, 9, 10] (l.length + 2) (fun g _ _ _ wr => ∃ (fs : List (List Tok × List UInt8)) (vs : List Value) (fo : Option Addr) (fc s m : Nat), B + 2 < wr.heap.size ∧ m ≤ l.length ∧ s ≤ 3 ∧ (s = 0 → m = 0) ∧ (s ≠ 3 → l.length + 2 - m ≤ g) ∧ fs.length ≤ m ∧ (dataOf fs).length ≤ 64 * fs.length ∧ Hid (wr.heap[B + 2]? = some (.cells #[.slice fo fs.length fc, .int .i64 s, .int .i64 m] 128 (0, 0))) ∧ Hid (wr.heap[B]? = some (.cells #[.slice none 0 0, .int .i64 0, .int .i64 0] 128 (0, 0))) ∧ Hid (wr.ownsRow (B + 3) 137 2 (.slice fo fs.length fc) fs.length vs) ∧ Hid (InnerAt wr (B + 3) vs fs) ∧ Hid (Below B w wr) ∧ Hid (RdrAt wr (B + 1) a l cap (8 * m)) ∧ Hid (Runs st (bitsIn l) fs s ((bitsIn l).drop (8 * m))))
  case atStart => exact ⟨[], [], none, 0, st, 0, by omega, by omega, hst, fun _ => rfl, fun _ => by omega, by simp, by simp, HX2, HX0', World.ownsRow_nil _ _ _ _, InnerAt.nil _ _, HB2, HR2, Runs.stay _ _⟩
  case round =>
    clear HX2 HX0' HB2 HR2
    obtain ⟨fs, vs, fo, fc, s, m, hsz, hm, hs3, hs0, hg, hfl, hdl, HX, HX0, HROW, HIN, HBW, HRD, HRUN⟩ := hrel
    obtain ⟨⟨x0, x1, x2⟩, y0, y1, y2⟩ := trio_cell HX.out
    obtain ⟨⟨u0, u1, u2⟩, v0, v1, v2⟩ := trio_cell HX0.out
    have HG : Hid _ := hg
    have HS0 : Hid _ := hs0
    clear hg hs0
    by_cases hs : s = 3
    · have hsb : ((s : Int) != 3) = false := by simp; omega
      have HS : Hid (s = 3) := hs
      clear hs
      have HAE : Hid _ := atEndR_calls (B + 1) a l cap (8 * m) wr HRD.out hl (by omega) (by omega)
      by_cases hend : 8 * m < (bitsIn l).length
      · have HD : Hid (decide (8 * m < (bitsIn l).length) = true) := decide_eq_true hend
        have HST : Hid (Stops s ((bitsIn l).drop (8 * m)) 9) := .inl ⟨HS.out, .inr ⟨fun h => by have := congrArg List.length h; rw [List.length_drop] at this; simp at this; omega, rfl⟩⟩
        go_wp2_with fail
        refine Calls.mono HAE.out ?_
        rintro r w4 ⟨rfl, nd, rfl⟩
        rw [HD.out]
        have HF : Hid _ := on_fin (e := 9) (W := wr.drewN nd) HBB.out HX0.out (row_below HROW.out (below_drewN (Below.refl _ _) _)) (HIN.out.below (below_drewN (Below.refl _ _) _)) (below_drewN HBW.out _) hm hs3 hl hfl hdl HRUN.out HST.out
        obtain ⟨⟨x0, x1, x2⟩, y0, y1, y2⟩ := trio_cell (w := wr.drewN nd) HX.out
        obtain ⟨⟨u0, u1, u2⟩, v0, v1, v2⟩ := trio_cell (w := wr.drewN nd) HX0.out
        have hszW : B + 2 < (wr.drewN nd).heap.size := hsz
        clear HAE
        generalize wr.drewN nd = W at *
        go_wp2
        obtain ⟨r0, r1, r2⟩ := HF.out.1
        refine bodyPost_ret (v := .tuple #[.agg #[.slice fo fs.length fc, .int .i64 s, .int .i64 m], .int .i64 9]) (by simp [results, Tryz.results79, go_sem, r0, r1, r2]) rfl HF.out.2
      · have HD : Hid (decide (8 * m < (bitsIn l).length) = false) := decide_eq_false hend
        have HST : Hid (Stops s ((bitsIn l).drop (8 * m)) 0) := .inl ⟨HS.out, .inl ⟨List.drop_of_length_le (by omega), rfl⟩⟩
        go_wp2_with fail
        refine Calls.mono HAE.out ?_
        rintro r w4 ⟨rfl, nd, rfl⟩
        rw [HD.out]
        have HF : Hid _ := on_fin (e := 0) (W := wr.drewN nd) HBB.out HX0.out (row_below HROW.out (below_drewN (Below.refl _ _) _)) (HIN.out.below (below_drewN (Below.refl _ _) _)) (below_drewN HBW.out _) hm hs3 hl hfl hdl HRUN.out HST.out
        obtain ⟨⟨x0, x1, x2⟩, y0, y1, y2⟩ := trio_cell (w := wr.drewN nd) HX.out
        obtain ⟨⟨u0, u1, u2⟩, v0, v1, v2⟩ := trio_cell (w := wr.drewN nd) HX0.out
        have hszW : B + 2 < (wr.drewN nd).heap.size := hsz
        clear HAE
        generalize wr.drewN nd = W at *
        go_wp2
        obtain ⟨r0, r1, r2⟩ := HF.out.1
        refine bodyPost_ret (v := .tuple #[.agg #[.slice fo fs.length fc, .int .i64 s, .int .i64 m], .int .i64 0]) (by simp [results, Tryz.results79, go_sem, r0, r1, r2]) rfl HF.out.2
    · have hsi : ¬ (s : Int) = 3 := by omega
      have HPT : Hid _ := readPart_calls (B + 1) a l cap (8 * m) s wr HRD.out hl (by omega) (by omega) (fun h => by have := HS0.out h; omega)
      have hBw : B ≤ wr.heap.size := by omega
      go_wp2_with fail
      refine Calls.mono HPT.out ?_
      clear HPT
      rintro r w4 ⟨hk, ⟨c, m', hp, hc, hm', rfl, hr4⟩ | ⟨m', s', hp, hnm, hm', h8, hs', rfl, hr4⟩ | ⟨ts, out, m', ao, nT, cp, bo, bp, hp, hnm, hm', h8, hmd, ho1, ho64, hnT, rfl, hT, hO, hr4⟩⟩
      · have HST : Hid (Stops s ((bitsIn l).drop (8 * m)) c) := .inr ⟨hs, hp⟩
        have HC : Hid (c ≠ 0) := hc
        have hcb : (c != 0) = true := by simpa using hc
        have hs4 := hk.size
        have HX4 : Hid (w4.heap[B + 2]? = some (.cells #[.slice fo fs.length fc, .int .i64 s, .int .i64 m] 128 (0, 0))) := by
          show _ = _
          rw [hk.heap _ hsz (by omega)]; exact HX.out
        have HX04 : Hid (w4.heap[B]? = some (.cells #[.slice none 0 0, .int .i64 0, .int .i64 0] 128 (0, 0))) := by
          show _ = _
          rw [hk.heap _ (by omega) (by omega)]; exact HX0.out
        have HF : Hid _ := on_fin HBB.out HX04.out (row_one HROW.out hk (by omega)) (HIN.out.one hk (by omega)) (HBW.out.trans (hk.below (by omega) hBw)) hm hs3 hl hfl hdl HRUN.out HST.out
        obtain ⟨⟨x0, x1, x2⟩, y0, y1, y2⟩ := trio_cell HX4.out
        obtain ⟨⟨u0, u1, u2⟩, v0, v1, v2⟩ := trio_cell HX04.out
        have hz1 : B + 2 < w4.heap.size := by omega
        have hz2 : B < w4.heap.size := by omega
        clear hk hp hc hr4
        go_wp2
        obtain ⟨r0, r1, r2⟩ := HF.out.1
        refine bodyPost_ret (v := .tuple #[.agg #[.slice fo fs.length fc, .int .i64 s, .int .i64 m], .int .i64 c]) (by simp [results, Tryz.results79, go_sem, cell_alloc r0, cell_alloc r1, cell_alloc r2]) rfl (HF.out.2.below ((Below.refl _ _).alloc (Nat.le_refl _) _))
      · obtain ⟨m', rfl⟩ : ∃ x, m' = 8 * x := ⟨m' / 8, by omega⟩
        have hs4 := hk.size
        have HRUN4 : Hid (Runs st (bitsIn l) fs s' ((bitsIn l).drop (8 * m'))) := by
          have := HRUN.out.trans (Runs.none hs hp (by rw [List.length_drop, List.length_drop]; omega) (Runs.stay _ _))
          show Runs _ _ _ _ _
          simpa using this
        have HX4 : Hid (w4.heap[B + 2]? = some (.cells #[.slice fo fs.length fc, .int .i64 s, .int .i64 m] 128 (0, 0))) := by
          show _ = _
          rw [hk.heap _ hsz (by omega)]; exact HX.out
        have HX04 : Hid (w4.heap[B]? = some (.cells #[.slice none 0 0, .int .i64 0, .int .i64 0] 128 (0, 0))) := by
          show _ = _
          rw [hk.heap _ (by omega) (by omega)]; exact HX0.out
        have HROW4 : Hid (w4.ownsRow (B + 3) 137 2 (.slice fo fs.length fc) fs.length vs) := row_one HROW.out hk (by omega)
        have HIN4 : Hid (InnerAt w4 (B + 3) vs fs) := HIN.out.one hk (by omega)
        have HB4 : Hid (Below B w w4) := HBW.out.trans (hk.below (by omega) hBw)
        have HR4 : Hid (RdrAt w4 (B + 1) a l cap (8 * m')) := hr4
        have HG4 : Hid (l.length + 2 - m ≤ gk) := HG.out hs
        obtain ⟨⟨x0, x1, x2⟩, y0, y1, y2⟩ := trio_cell HX4.out
        have hz1 : B + 2 < w4.heap.size := by omega
        have hz2 : B < w4.heap.size := by omega
        have hz3 : B + 1 < w4.heap.size := by omega
        have hm4 : m' ≤ l.length := by omega
        have hmm : m < m' := by omega
        have hs'3 : s' ≤ 3 := by omega
        have HS' : Hid (s' = 1 ∨ s' = 3) := hs'
        clear hk hp hr4 hs' HX HX0 HROW HIN HBW HRD HRUN u0 u1 u2 v0 v1 v2
        go_wp2_with fail
        refine (bytesRead8_calls (B + 1) a l cap m' _ ?hr hl hm4).mono ?_
        case hr =>
          refine rdr_of HB.out (by rw [HBB.out]; exact ((HB4.out.setCell (by show B ≤ B + 2; omega) _).alloc (by rw [set_size]; omega) _)) ?_ (by rw [HBB.out]; omega)
          rw [Below.heap_alloc _ _ _ (by rw [set_size]; omega), set_other _ (by omega)]
          exact HR4.out.block
        rintro r w5 ⟨rfl, rfl⟩
        go_wp2
        go_roundg (if s' = 3 then 0 else l.length + 2 - m')
        case measure => have := HG4.out; split <;> omega
        case rel =>
          refine ⟨fs, vs, fo, fc, s', m', by simp; omega, hm4, hs'3, fun h => by have := HS'.out; omega, fun h => by rw [if_neg h]; omega, by omega, hdl, ?_, ?_, ?_, ?_, ?_, ?_, HRUN4⟩
          · show _ = _
            rw [Below.heap_alloc _ _ _ (by simp; omega)]
            exact set_block (i := 2) (set_block (i := 1) HX4.out _) _
          · show _ = _
            rw [Below.heap_alloc _ _ _ (by simp; omega), set_other _ (by omega), set_other _ (by omega)]
            exact HX04.out
          · exact World.ownsRow.alloc (ownsRow_setCell_below (ownsRow_setCell_below HROW4.out (by show B + 2 < B + 3; omega) _) (by show B + 2 < B + 3; omega) _) _
          · exact ((HIN4.out.low (by omega) _).low (by omega) _).below ((Below.refl _ _).alloc (Nat.le_refl _) _)
          · exact ((HB4.out.setCell (by show B ≤ B + 2; omega) _).setCell (by show B ≤ B + 2; omega) _).alloc (by simp; omega) _
          · refine rdr_of HB.out (by rw [HBB.out]; exact ((HB4.out.setCell (by show B ≤ B + 2; omega) _).setCell (by show B ≤ B + 2; omega) _).alloc (by simp; omega) _) ?_ (by rw [HBB.out]; omega)
            rw [Below.heap_alloc _ _ _ (by simp; omega), set_other _ (by omega), set_other _ (by omega)]
            exact HR4.out.block
      · obtain ⟨m', rfl⟩ : ∃ x, m' = 8 * x := ⟨m' / 8, by omega⟩
        have hs4 := hk.size
        have hst2 : stageOf out = 1 ∨ stageOf out = 2 := by unfold stageOf; split <;> omega
        have HRUN4 : Hid (Runs st (bitsIn l) (fs ++ [(ts, out)]) (stageOf out) ((bitsIn l).drop (8 * m'))) := by
          have := HRUN.out.trans (Runs.some hs hp (by rw [List.length_drop, List.length_drop]; omega) (by rw [hmd]; exact ho1) (by rw [hmd]; exact ho64) (Runs.stay _ _))
          rw [hmd] at this
          exact this
        have HX4 : Hid (w4.heap[B + 2]? = some (.cells #[.slice fo fs.length fc, .int .i64 s, .int .i64 m] 128 (0, 0))) := by
          show _ = _
          rw [hk.heap _ hsz (by omega)]; exact HX.out
        have HX04 : Hid (w4.heap[B]? = some (.cells #[.slice none 0 0, .int .i64 0, .int .i64 0] 128 (0, 0))) := by
          show _ = _
          rw [hk.heap _ (by omega) (by omega)]; exact HX0.out
        have HROW4 : Hid (w4.ownsRow (B + 3) 137 2 (.slice fo fs.length fc) fs.length vs) := row_one HROW.out hk (by omega)
        have HIN4 : Hid (InnerAt w4 (B + 3) vs fs) := HIN.out.one hk (by omega)
        have HB4 : Hid (Below B w w4) := HBW.out.trans (hk.below (by omega) hBw)
        have HR4 : Hid (RdrAt w4 (B + 1) a l cap (8 * m')) := hr4
        have HG4 : Hid (l.length + 2 - m ≤ gk) := HG.out hs
        subst hnT
        have HNR : Hid (NewRow vs fs.length (.slice ao ts.length cp)) := fun j u hj hu k hk e => by
          obtain ⟨a', c', b', d', h1, _, h3, _⟩ := HIN.out j hj
          rw [h1] at hu
          simp at hu
          subst hu
          have := (World.ownsRow.lt h3 k hk).2
          have := (World.ownsRow.lt hT k e).1
          omega
        have HT : Hid (TokRow w4 (B + 3) (.slice ao ts.length cp) ts) := row_le hT (by omega)
        have HO : Hid (OwnB w4 (B + 3) (.slice bo out.length bp) out) := row_le hO (by omega)
        obtain ⟨⟨x0, x1, x2⟩, y0, y1, y2⟩ := trio_cell HX4.out
        have hz1 : B + 2 < w4.heap.size := by omega
        have hz2 : B < w4.heap.size := by omega
        have hz3 : B + 1 < w4.heap.size := by omega
        have hm4 : m' ≤ l.length := by omega
        have hmm : m < m' := by omega
        have HS' : Hid (stageOf out = 1 ∨ stageOf out = 2) := hst2
        have hsle : stageOf out ≤ 2 := by omega
        have hob : (0 : Int) < (out.length : Int) := by omega
        have hfm : fs.length < 5000 := by omega
        clear hk hp hr4 hT hO hst2 HX HX0 HROW HIN HBW HRD HRUN u0 u1 u2 v0 v1 v2
        go_wp2_with (at_builtin; refine wpList_append_own _ rfl _ _ 126 rfl (B + 3) 137 it (.agg #[.slice none 0 0, .slice none 0 0]) 2 48 Tryz.underlying126 hti htz0 htz1 htz2 rfl (by decide) _ _ _ rfl ((World.ownsRow.alloc HROW4.out _).alloc _) ⟨w4.heap.size + 1, 0, none⟩ 1 1 [.slice ao ts.length cp, .slice bo out.length bp] rfl rfl ?b1 ?b2 ?b3 ?b4 ?b5 ?_)
        case b1 => intro j u hj; exact cell_new2' _ _ (by simp) _ _ _ j u hj
        case b2 => intro u hu; simp at hu; rcases hu with rfl | rfl <;> rfl
        case b3 => unfold maxLen; omega
        case b4 => omega
        case b5 => first | omega | (simp; omega)
        intro v' w5 hown' hgrow _
        have hz5 : w4.heap.size + 2 ≤ w5.heap.size := by have := hgrow.size; simpa using this
        have hblk : ∀ k, k ≤ B + 2 → w5.heap[k]? = w4.heap[k]? := fun k h1 => by
          rw [hgrow.block k (by simp; omega) (fun e => by have := (World.ownsRow.lt HROW4.out k e.symm).1; omega), Below.heap_alloc _ _ _ (by simp; omega), Below.heap_alloc _ _ _ (by omega)]
        obtain ⟨fo', fc', rfl⟩ := row_form hown'
        have HX5 : Hid (w5.heap[B + 2]? = some (.cells #[.slice fo fs.length fc, .int .i64 s, .int .i64 m] 128 (0, 0))) := by
          show _ = _
          rw [hblk _ (Nat.le_refl _)]; exact HX4.out
        have HX05 : Hid (w5.heap[B]? = some (.cells #[.slice none 0 0, .int .i64 0, .int .i64 0] 128 (0, 0))) := by
          show _ = _
          rw [hblk _ (by omega)]; exact HX04.out
        have HRB5 : Hid (w5.heap[B + 1]? = some (.cells #[.slice a l.length cap, .int .i64 (8 * m' : Nat)] 168 (0, 0))) := by
          show _ = _
          rw [hblk _ (by omega)]; exact HR4.out.block
        have HB5 : Hid (Below B w w5) := ((HB4.out.alloc (by omega) _).alloc (by simp; omega) _).grown hgrow (by simp; omega) (fun k hk => by have := (World.ownsRow.lt HROW4.out k hk).1; omega)
        have HIN5 : Hid (InnerAt w5 (B + 3) (vs ++ [.slice ao ts.length cp, .slice bo out.length bp]) (fs ++ [(ts, out)])) :=
          InnerAt.snoc ((World.ownsRow.alloc HROW4.out _).alloc _) ((HIN4.out.below ((Below.refl _ _).alloc (Nat.le_refl _) _)).below ((Below.refl _ _).alloc (Nat.le_refl _) _)) (TokRow.alloc (TokRow.alloc HT.out _) _) (OwnB.alloc (OwnB.alloc HO.out _) _) ho1 HNR.out hgrow
        have HROW5 : Hid (w5.ownsRow (B + 3) 137 2 (.slice fo' (fs.length + 1) fc') (fs.length + 1) (vs ++ [.slice ao ts.length cp, .slice bo out.length bp])) := hown'
        have hfl2 : (fs ++ [(ts, out)]).length = fs.length + 1 := by simp
        have hdl2 : (dataOf (fs ++ [(ts, out)])).length ≤ 64 * (fs.length + 1) := by
          have e : (dataOf (fs ++ [(ts, out)])).length = (dataOf fs).length + out.length := by simp [dataOf]
          rw [e]
          omega
        obtain ⟨⟨x0, x1, x2⟩, y0, y1, y2⟩ := trio_cell HX5.out
        have HFL2 : Hid _ := hfl2
        clear hown' hgrow HROW4 HIN4 HX4 HX04 HR4 HT HO hfl2 HB4 hblk
        generalize hSO : stageOf out = so at *
        have HSO : Hid (stageOf out = so) := hSO
        clear hSO
        go_wp2_with fail
        refine (bytesRead8_calls (B + 1) a l cap m' _ ?hr2 hl hm4).mono ?_
        case hr2 =>
          refine rdr_of HB.out (by rw [HBB.out]; exact (HB5.out.setCell (by show B ≤ B + 2; omega) _).setCell (by show B ≤ B + 2; omega) _) ?_ (by rw [HBB.out]; omega)
          rw [set_other _ (by omega), set_other _ (by omega)]
          exact HRB5.out
        rintro r w6 ⟨rfl, rfl⟩
        go_wp2
        go_roundg (l.length + 2 - m')
        case measure => have := HG4.out; omega
        case rel =>
          refine ⟨fs ++ [(ts, out)], _, fo', fc', so, m', by simp; omega, hm4, by omega, fun h => by have := HS'.out; omega, fun h => Nat.le_refl _, by rw [HFL2.out]; omega, by rw [HFL2.out]; exact hdl2, ?_, ?_, ?_, set3_inner HIN5.out (by omega) _ _ _, set3_below HB5.out (by omega) _ _ _, ?_, HRUN4⟩
          · rw [HFL2.out]; exact set3_box HX5.out _ _ _
          · show _ = _
            exact (set3_other (by omega) _ _ _).trans HX05.out
          · rw [HFL2.out]; exact set3_row HROW5.out (by omega) _ _ _
          · refine rdr_of HB.out (by rw [HBB.out]; exact set3_below HB5.out (by omega) _ _ _) ?_ (by rw [HBB.out]; omega)
            exact (set3_other (by omega) _ _ _).trans HRB5.out
end Go.Proofs.YtnpnaglgllcpfaaGreat

/- What the program's reader of streams answers of bytes in memory. -/
namespace Go.Proofs.YtnpnaglgllcpfaaGreat
set_option maxRecDepth 100000
open Go.RowKit

/-- How Read of streams ends. -/
def SReadAns (w w' : World) (l : List UInt8) (r : Ending) : Prop :=
  Below w.heap.size w w' ∧ ((∃ c, c ≠ 0 ∧ r = .returned (.tuple #[.slice none 0 0, .int .i64 c]) ∧ (rRead l).1 = c) ∨
    ∃ fs v, r = .returned (.tuple #[v, .int .i64 0]) ∧ FramesAt w' w.heap.size v fs ∧ fs.length ≤ 4096 ∧ (dataOf fs).length ≤ 64 * fs.length ∧ (rRead l).1 = 0 ∧ (rRead l).2.1 = psOf fs ∧ (rRead l).2.2.1 = dataOf fs)

set_option maxHeartbeats 1000000 in
theorem sread_calls (a : Option Addr) (l : List UInt8) (cap : Nat) (w : World) (hl : l.length ≤ 9223372036854775807) (hb : BytesAt w a l) :
    Calls Tryz.prog 84 #[.slice a l.length cap] w fun r w' => SReadAns w w' l r := by
  have HB : Hid (BytesAt w a l) := hb
  clear hb
  by_cases hlong : 4096 < l.length
  · have HR : Hid ((rRead l).1 = 1) := by show _ = _; rw [show rRead l = (1, [], [], []) from if_pos hlong]
    go_enter Tryz.func84, Tryz.ntmps84
    go_wp2
    go_ret2
    exact ⟨Below.refl _ _, .inl ⟨1, by decide, rfl, HR.out⟩⟩
  · have hl4 : l.length ≤ 4096 := by omega
    clear hlong
    go_enter Tryz.func84, Tryz.ntmps84
    go_wp2_with fail
    refine (readOn_calls a l cap 0 w hl4 (by omega) HB.out).mono ?_
    rintro r w1 ⟨hb1, fs, fo, fc, st', m, e, rfl, hfr, hfl, hdl, hm, hst, hrun, hstop⟩
    obtain ⟨ends, hread⟩ := hrun.read hstop hl4
    have HB1 : Hid (Below w.heap.size w w1) := hb1
    have HFR : Hid (FramesAt w1 w.heap.size (.slice fo fs.length fc) fs) := hfr
    have HRD : Hid (rRead l = (e, psOf fs, dataOf fs, ends)) := hread
    have hs1 := hb1.size
    clear hb1 hfr hrun hstop hread
    by_cases he : e = 0
    · subst he
      go_wp2
      go_ret2
      exact ⟨HB1.out.alloc hs1 _, .inr ⟨fs, _, rfl, HFR.out.below ((Below.refl _ _).alloc (Nat.le_refl _) _), hfl, hdl, by rw [HRD.out], by rw [HRD.out], by rw [HRD.out]⟩⟩
    · have heb : (e != 0) = true := by simpa using he
      have HE : Hid (e ≠ 0) := he
      clear he
      go_wp2
      go_ret2
      exact ⟨HB1.out.alloc hs1 _, .inl ⟨e, HE.out, rfl, by rw [HRD.out]⟩⟩
end Go.Proofs.YtnpnaglgllcpfaaGreat
