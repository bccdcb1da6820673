/-
  What the program's reader of streams tells of bytes in memory, from a stage on.
-/
import Derived.Test.YtnpnaglgllcpfabSb7
namespace Go.Proofs.Ytnpnaglgllcpfab
set_option maxRecDepth 100000
open Go.RowKit

theorem FramesAt.le {w : World} {B B' : Nat} {v : Value} {fs : List (List Tok × List UInt8)} (h : FramesAt w B v fs) (hb : B' ≤ B) : FramesAt w B' v fs := by
  obtain ⟨vs, h1, h2⟩ := h
  refine ⟨vs, row_le h1 hb, fun i hi => ?_⟩
  obtain ⟨a, c, b, d, g1, g2, g3, g4, g5⟩ := h2 i hi
  exact ⟨a, c, b, d, g1, g2, row_le g3 hb, row_le g4 hb, g5⟩
theorem cell_new2 (w : World) (x y : Value) (t : TypeId) (j : Nat) (v : Value) (hj : [x, y][j]? = some v) : (w.alloc (.cells #[x, y] t)).cell? ((⟨w.heap.size, 0, none⟩ : Addr).add j) = some v := by
  match j, hj with
  | 0, hj => simp at hj; subst hj; simp [Addr.add]
  | 1, hj => simp at hj; subst hj; simp [Addr.add]

theorem cell_new2' (w : World) (k : Nat) (hk : k = w.heap.size) (x y : Value) (t : TypeId) (j : Nat) (v : Value) (hj : [x, y][j]? = some v) : (w.alloc (.cells #[x, y] t)).cell? ((⟨k, 0, none⟩ : Addr).add j) = some v := by
  subst hk; exact cell_new2 w x y t j v hj
/-- Three cells of a box are written. -/
abbrev set3 (W : World) (p : Nat) (x y z : Value) : World := ((W.setCell ⟨p, 0, none⟩ x).setCell ⟨p, 1, none⟩ y).setCell ⟨p, 2, none⟩ z
theorem set3_box {W : World} {p : Nat} {x y z : Value} {t : TypeId} (h : W.heap[p]? = some (.cells #[x, y, z] t (0, 0))) (x' y' z' : Value) : (set3 W p x' y' z').heap[p]? = some (.cells #[x', y', z'] t (0, 0)) :=
  set_block (i := 2) (set_block (i := 1) (set_block (i := 0) h x') y') z'
theorem set3_other {W : World} {p k : Nat} (h : k ≠ p) (x y z : Value) : (set3 W p x y z).heap[k]? = W.heap[k]? := by
  unfold set3
  rw [set_other _ h, set_other _ h, set_other _ h]
theorem set3_size (W : World) (p : Nat) (x y z : Value) : (set3 W p x y z).heap.size = W.heap.size := by simp only [set3, set_size]
theorem set3_row {W : World} {B n z p : Nat} {e : TypeId} {v : Value} {xs : List Value} (h : W.ownsRow B e z v n xs) (hp : p < B) (x y u : Value) : (set3 W p x y u).ownsRow B e z v n xs :=
  ownsRow_setCell_below (ownsRow_setCell_below (ownsRow_setCell_below h (by exact hp) _) (by exact hp) _) (by exact hp) _
theorem set3_inner {W : World} {B p : Nat} {vs : List Value} {fs : List (List Tok × List UInt8)} (h : InnerAt W B vs fs) (hp : p < B) (x y z : Value) : InnerAt (set3 W p x y z) B vs fs := fun j hj => by
  obtain ⟨a, c, b, d, h1, h2, h3, h4, h5⟩ := h j hj
  exact ⟨a, c, b, d, h1, h2, set3_row h3 hp _ _ _, set3_row h4 hp _ _ _, h5⟩
theorem InnerAt.low {W : World} {B p i : Nat} {vs : List Value} {fs : List (List Tok × List UInt8)} (h : InnerAt W B vs fs) (hp : p < B) (x : Value) : InnerAt (W.setCell ⟨p, i, none⟩ x) B vs fs := fun j hj => by
  obtain ⟨a, c, b, d, h1, h2, h3, h4, h5⟩ := h j hj
  exact ⟨a, c, b, d, h1, h2, ownsRow_setCell_below h3 (by exact hp) _, ownsRow_setCell_below h4 (by exact hp) _, h5⟩
theorem set3_below {w W : World} {B p : Nat} (h : Below B w W) (hp : B ≤ p) (x y z : Value) : Below B w (set3 W p x y z) := ((h.setCell hp _).setCell hp _).setCell hp _
/-- A Reader, by its block. -/
theorem rdr_of {w W : World} {q : Nat} {a : Option Addr} {l : List UInt8} {cap n : Nat} (h : BytesAt w a l) (hb : Below w.heap.size w W) (hx : W.heap[q]? = some (.cells #[.slice a l.length cap, .int .i64 n] 125 (0, 0))) (hq : w.heap.size ≤ q) : RdrAt W q a l cap n := by
  refine ⟨hx, bytesAt_below h hb, fun hl b off ha => ?_⟩
  rcases h with h1 | ⟨b', off', h1, h2⟩
  · rw [h1] at hl; simp at hl
  · rw [ha] at h1
    simp at h1
    have hlt : b' < w.heap.size := World.block_lt_of_cell? w _ (h2 0 hl)
    omega
theorem bytesRead8_calls (q : Nat) (a : Option Addr) (l : List UInt8) (cap m : Nat) (w : World) (h : RdrAt w q a l cap (8 * m)) (hl : l.length ≤ 4096) (hm : m ≤ l.length) :
    Calls Try.prog 71 #[.pointer (some ⟨q, 0, none⟩)] w fun r w' => r = .returned (.int .i64 (m : Int)) ∧ w' = w := by
  refine (bytesReadR_calls q a l cap (8 * m) w h hl (by rw [bitsIn_length]; omega)).mono ?_
  rintro r w' ⟨rfl, rfl⟩
  exact ⟨by congr 2; omega, rfl⟩

/-- How ReadOn ends. -/
def OnAns (w w' : World) (l : List UInt8) (st : Nat) (r : Ending) : Prop :=
  Below w.heap.size w w' ∧ ∃ fs fo fc st' m e, r = .returned (.tuple #[.agg #[.slice fo fs.length fc, .int .i64 (st' : Nat), .int .i64 ((m : Nat) : Int)], .int .i64 e]) ∧ FramesAt w' w.heap.size (.slice fo fs.length fc) fs ∧ fs.length ≤ 4096 ∧ (dataOf fs).length ≤ 64 * fs.length ∧ m ≤ l.length ∧ st' ≤ 3 ∧ Runs st (bitsIn l) fs st' ((bitsIn l).drop (8 * m)) ∧ Stops st' ((bitsIn l).drop (8 * m)) e

/-- What ReadOn returns. -/
theorem on_fin {w W : World} {B : Nat} {l : List UInt8} {st : Nat} {fs : List (List Tok × List UInt8)} {vs : List Value} {fo : Option Addr} {fc s m : Nat} {e : Int} (hBB : w.heap.size = B) (hx0 : W.heap[B]? = some (.cells #[.slice none 0 0, .int .i64 0, .int .i64 0] 94 (0, 0)))
    (hrow : W.ownsRow (B + 3) 73 2 (.slice fo fs.length fc) fs.length vs) (hin : InnerAt W (B + 3) vs fs) (hbw : Below B w W) (hm : m ≤ l.length) (hs : s ≤ 3) (hl : l.length ≤ 4096) (hfl : fs.length ≤ m) (hdl : (dataOf fs).length ≤ 64 * fs.length) (hrun : Runs st (bitsIn l) fs s ((bitsIn l).drop (8 * m))) (hstop : Stops s ((bitsIn l).drop (8 * m)) e) :
    ((set3 W B (.slice fo fs.length fc) (.int .i64 s) (.int .i64 m)).cell? ⟨B, 0, none⟩ = some (.slice fo fs.length fc) ∧ (set3 W B (.slice fo fs.length fc) (.int .i64 s) (.int .i64 m)).cell? ⟨B, 1, none⟩ = some (.int .i64 s) ∧ (set3 W B (.slice fo fs.length fc) (.int .i64 s) (.int .i64 m)).cell? ⟨B, 2, none⟩ = some (.int .i64 m)) ∧
    OnAns w (set3 W B (.slice fo fs.length fc) (.int .i64 s) (.int .i64 m)) l st (.returned (.tuple #[.agg #[.slice fo fs.length fc, .int .i64 s, .int .i64 m], .int .i64 e])) := by
  have hb := set3_box hx0 (.slice fo fs.length fc) (.int .i64 s) (.int .i64 m)
  refine ⟨(trio_cell hb).1, ?_, fs, fo, fc, s, m, e, rfl, FramesAt.le (B := B + 3) ⟨vs, set3_row hrow (by omega) _ _ _, set3_inner hin (by omega) _ _ _⟩ (by omega), by omega, hdl, hm, hs, hrun, hstop⟩
  rw [hBB]; exact set3_below hbw (Nat.le_refl _) _ _ _

theorem OnAns.below {w W W' : World} {l : List UInt8} {st : Nat} {r : Ending} (h : OnAns w W l st r) (hb : Below W.heap.size W W') : OnAns w W' l st r := by
  obtain ⟨h1, fs, fo, fc, st', m, e, h2, h3, h4⟩ := h
  exact ⟨h1.trans (hb.mono h1.size), fs, fo, fc, st', m, e, h2, h3.below hb, h4⟩

set_option maxHeartbeats 4000000 in
theorem readOn_calls (a : Option Addr) (l : List UInt8) (cap st : Nat) (w : World) (hl : l.length ≤ 4096) (hst : st ≤ 3) (hb : BytesAt w a l) :
    Calls Try.prog 56 #[.slice a l.length cap, .int .i64 st] w fun r w' => OnAns w w' l st r := by
  have HB : Hid (BytesAt w a l) := hb
  have hlen := bitsIn_length l
  have HBA : Hid (BytesAt (w.alloc (.cells #[.slice none 0 0, .int .i64 0, .int .i64 0] 94)) a l) := bytesAt_below hb ((Below.refl _ _).alloc (Nat.le_refl _) _)
  obtain ⟨it, hti, htz0, htz1, htz2⟩ := info_parts infoFrame
  clear hb
  go_enter Try.func56, Try.ntmps56
  go_wp2_with fail
  refine (newReader_calls a l cap _ HBA.out).mono ?_
  rintro r w1 ⟨rfl, hb1, hs1, hr1⟩
  have HX0 : Hid (w1.heap[w.heap.size]? = some (.cells #[.slice none 0 0, .int .i64 0, .int .i64 0] 94 (0, 0))) := by
    show _ = _
    rw [hb1.block _ (by simp)]; exact heap_alloc_new w _
  have HB1 : Hid (Below w.heap.size w w1) := ((Below.refl _ _).alloc (Nat.le_refl _) _).trans (hb1.mono (by simp))
  have hs1' : w1.heap.size = w.heap.size + 2 := by rw [hs1]; simp
  have hq1 : (w.alloc (.cells #[.slice none 0 0, .int .i64 0, .int .i64 0] 94)).heap.size = w.heap.size + 1 := by simp
  rw [hq1] at hr1
  have HR1 : Hid (RdrAt w1 (w.heap.size + 1) a l cap 0) := hr1
  clear hb1 hs1 hr1 hq1
  go_wp2_with fail
  generalize hBB : w.heap.size = B at *
  have HBB : Hid (w.heap.size = B) := hBB
  clear hBB
  have HX0' : Hid ((w1.alloc (.cells #[.slice none 0 0, .int .i64 st, .int .i64 0] 94)).heap[B]? = some (.cells #[.slice none 0 0, .int .i64 0, .int .i64 0] 94 (0, 0))) := by
    show _ = _
    rw [Below.heap_alloc _ _ _ (by omega)]; exact HX0.out
  have HX2 : Hid ((w1.alloc (.cells #[.slice none 0 0, .int .i64 st, .int .i64 0] 94)).heap[B + 2]? = some (.cells #[.slice none 0 0, .int .i64 st, .int .i64 0] 94 (0, 0))) := by
    show _ = _
    rw [← hs1']; exact heap_alloc_new w1 _
  have HR2 : Hid (RdrAt (w1.alloc (.cells #[.slice none 0 0, .int .i64 st, .int .i64 0] 94)) (B + 1) a l cap (8 * 0)) := HR1.out.below ((Below.refl _ _).alloc (Nat.le_refl _) _)
  have HB2 : Hid (Below B w (w1.alloc (.cells #[.slice none 0 0, .int .i64 st, .int .i64 0] 94))) := HB1.out.alloc (by omega) _
  have hs2 : (w1.alloc (.cells #[.slice none 0 0, .int .i64 st, .int .i64 0] 94)).heap.size = B + 3 := by simp; omega
  clear HX0 HR1 HB1 HBA
  generalize w1.alloc (.cells #[.slice none 0 0, .int .i64 st, .int .i64 0] 94) = w2 at *
  go_loopg [8, 9, 10] (l.length + 2) (fun g _ _ _ wr => ∃ (fs : List (List Tok × List UInt8)) (vs : List Value) (fo : Option Addr) (fc s m : Nat), B + 2 < wr.heap.size ∧ m ≤ l.length ∧ s ≤ 3 ∧ (s = 0 → m = 0) ∧ (s ≠ 3 → l.length + 2 - m ≤ g) ∧ fs.length ≤ m ∧ (dataOf fs).length ≤ 64 * fs.length ∧ Hid (wr.heap[B + 2]? = some (.cells #[.slice fo fs.length fc, .int .i64 s, .int .i64 m] 94 (0, 0))) ∧ Hid (wr.heap[B]? = some (.cells #[.slice none 0 0, .int .i64 0, .int .i64 0] 94 (0, 0))) ∧ Hid (wr.ownsRow (B + 3) 73 2 (.slice fo fs.length fc) fs.length vs) ∧ Hid (InnerAt wr (B + 3) vs fs) ∧ Hid (Below B w wr) ∧ Hid (RdrAt wr (B + 1) a l cap (8 * m)) ∧ Hid (Runs st (bitsIn l) fs s ((bitsIn l).drop (8 * m))))
  case atStart => exact ⟨[], [], none, 0, st, 0, by omega, by omega, hst, fun _ => rfl, fun _ => by omega, by simp, by simp, HX2, HX0', World.ownsRow_nil _ _ _ _, InnerAt.nil _ _, HB2, HR2, Runs.stay _ _⟩
  case round =>
    clear HX2 HX0' HB2 HR2
    obtain ⟨fs, vs, fo, fc, s, m, hsz, hm, hs3, hs0, hg, hfl, hdl, HX, HX0, HROW, HIN, HBW, HRD, HRUN⟩ := hrel
    obtain ⟨⟨x0, x1, x2⟩, y0, y1, y2⟩ := trio_cell HX.out
    obtain ⟨⟨u0, u1, u2⟩, v0, v1, v2⟩ := trio_cell HX0.out
    have HG : Hid _ := hg
    have HS0 : Hid _ := hs0
    clear hg hs0
    by_cases hs : s = 3
    · have hsb : ((s : Int) != 3) = false := by simp; omega
      have HS : Hid (s = 3) := hs
      clear hs
      have HAE : Hid _ := atEndR_calls (B + 1) a l cap (8 * m) wr HRD.out hl (by omega) (by omega)
      by_cases hend : 8 * m < (bitsIn l).length
      · have HD : Hid (decide (8 * m < (bitsIn l).length) = true) := decide_eq_true hend
        have HST : Hid (Stops s ((bitsIn l).drop (8 * m)) 9) := .inl ⟨HS.out, .inr ⟨fun h => by have := congrArg List.length h; rw [List.length_drop] at this; simp at this; omega, rfl⟩⟩
        go_wp2_with fail
        refine Calls.mono HAE.out ?_
        rintro r w4 ⟨rfl, nd, rfl⟩
        rw [HD.out]
        have HF : Hid _ := on_fin (e := 9) (W := wr.drewN nd) HBB.out HX0.out (row_below HROW.out (below_drewN (Below.refl _ _) _)) (HIN.out.below (below_drewN (Below.refl _ _) _)) (below_drewN HBW.out _) hm hs3 hl hfl hdl HRUN.out HST.out
        obtain ⟨⟨x0, x1, x2⟩, y0, y1, y2⟩ := trio_cell (w := wr.drewN nd) HX.out
        obtain ⟨⟨u0, u1, u2⟩, v0, v1, v2⟩ := trio_cell (w := wr.drewN nd) HX0.out
        have hszW : B + 2 < (wr.drewN nd).heap.size := hsz
        clear HAE
        generalize wr.drewN nd = W at *
        go_wp2
        obtain ⟨r0, r1, r2⟩ := HF.out.1
        refine bodyPost_ret (v := .tuple #[.agg #[.slice fo fs.length fc, .int .i64 s, .int .i64 m], .int .i64 9]) (by simp [results, Try.results56, go_sem, r0, r1, r2]) rfl HF.out.2
      · have HD : Hid (decide (8 * m < (bitsIn l).length) = false) := decide_eq_false hend
        have HST : Hid (Stops s ((bitsIn l).drop (8 * m)) 0) := .inl ⟨HS.out, .inl ⟨List.drop_of_length_le (by omega), rfl⟩⟩
        go_wp2_with fail
        refine Calls.mono HAE.out ?_
        rintro r w4 ⟨rfl, nd, rfl⟩
        rw [HD.out]
        have HF : Hid _ := on_fin (e := 0) (W := wr.drewN nd) HBB.out HX0.out (row_below HROW.out (below_drewN (Below.refl _ _) _)) (HIN.out.below (below_drewN (Below.refl _ _) _)) (below_drewN HBW.out _) hm hs3 hl hfl hdl HRUN.out HST.out
        obtain ⟨⟨x0, x1, x2⟩, y0, y1, y2⟩ := trio_cell (w := wr.drewN nd) HX.out
        obtain ⟨⟨u0, u1, u2⟩, v0, v1, v2⟩ := trio_cell (w := wr.drewN nd) HX0.out
        have hszW : B + 2 < (wr.drewN nd).heap.size := hsz
        clear HAE
        generalize wr.drewN nd = W at *
        go_wp2
        obtain ⟨r0, r1, r2⟩ := HF.out.1
        refine bodyPost_ret (v := .tuple #[.agg #[.slice fo fs.length fc, .int .i64 s, .int .i64 m], .int .i64 0]) (by simp [results, Try.results56, go_sem, r0, r1, r2]) rfl HF.out.2
    · have hsi : ¬ (s : Int) = 3 := by omega
      have HPT : Hid _ := readPart_calls (B + 1) a l cap (8 * m) s wr HRD.out hl (by omega) (by omega) (fun h => by have := HS0.out h; omega)
      have hBw : B ≤ wr.heap.size := by omega
      go_wp2_with fail
      refine Calls.mono HPT.out ?_
      clear HPT
      rintro r w4 ⟨hk, ⟨c, m', hp, hc, hm', rfl, hr4⟩ | ⟨m', s', hp, hnm, hm', h8, hs', rfl, hr4⟩ | ⟨ts, out, m', ao, nT, cp, bo, bp, hp, hnm, hm', h8, hmd, ho1, ho64, hnT, rfl, hT, hO, hr4⟩⟩
      · have HST : Hid (Stops s ((bitsIn l).drop (8 * m)) c) := .inr ⟨hs, hp⟩
        have HC : Hid (c ≠ 0) := hc
        have hcb : (c != 0) = true := by simpa using hc
        have hs4 := hk.size
        have HX4 : Hid (w4.heap[B + 2]? = some (.cells #[.slice fo fs.length fc, .int .i64 s, .int .i64 m] 94 (0, 0))) := by
          show _ = _
          rw [hk.heap _ hsz (by omega)]; exact HX.out
        have HX04 : Hid (w4.heap[B]? = some (.cells #[.slice none 0 0, .int .i64 0, .int .i64 0] 94 (0, 0))) := by
          show _ = _
          rw [hk.heap _ (by omega) (by omega)]; exact HX0.out
        have HF : Hid _ := on_fin HBB.out HX04.out (row_one HROW.out hk (by omega)) (HIN.out.one hk (by omega)) (HBW.out.trans (hk.below (by omega) hBw)) hm hs3 hl hfl hdl HRUN.out HST.out
        obtain ⟨⟨x0, x1, x2⟩, y0, y1, y2⟩ := trio_cell HX4.out
        obtain ⟨⟨u0, u1, u2⟩, v0, v1, v2⟩ := trio_cell HX04.out
        have hz1 : B + 2 < w4.heap.size := by omega
        have hz2 : B < w4.heap.size := by omega
        clear hk hp hc hr4
        go_wp2
        obtain ⟨r0, r1, r2⟩ := HF.out.1
        refine bodyPost_ret (v := .tuple #[.agg #[.slice fo fs.length fc, .int .i64 s, .int .i64 m], .int .i64 c]) (by simp [results, Try.results56, go_sem, cell_alloc r0, cell_alloc r1, cell_alloc r2]) rfl (HF.out.2.below ((Below.refl _ _).alloc (Nat.le_refl _) _))
      · obtain ⟨m', rfl⟩ : ∃ x, m' = 8 * x := ⟨m' / 8, by omega⟩
        have hs4 := hk.size
        have HRUN4 : Hid (Runs st (bitsIn l) fs s' ((bitsIn l).drop (8 * m'))) := by
          have := HRUN.out.trans (Runs.none hs hp (by rw [List.length_drop, List.length_drop]; omega) (Runs.stay _ _))
          show Runs _ _ _ _ _
          simpa using this
        have HX4 : Hid (w4.heap[B + 2]? = some (.cells #[.slice fo fs.length fc, .int .i64 s, .int .i64 m] 94 (0, 0))) := by
          show _ = _
          rw [hk.heap _ hsz (by omega)]; exact HX.out
        have HX04 : Hid (w4.heap[B]? = some (.cells #[.slice none 0 0, .int .i64 0, .int .i64 0] 94 (0, 0))) := by
          show _ = _
          rw [hk.heap _ (by omega) (by omega)]; exact HX0.out
        have HROW4 : Hid (w4.ownsRow (B + 3) 73 2 (.slice fo fs.length fc) fs.length vs) := row_one HROW.out hk (by omega)
        have HIN4 : Hid (InnerAt w4 (B + 3) vs fs) := HIN.out.one hk (by omega)
        have HB4 : Hid (Below B w w4) := HBW.out.trans (hk.below (by omega) hBw)
        have HR4 : Hid (RdrAt w4 (B + 1) a l cap (8 * m')) := hr4
        have HG4 : Hid (l.length + 2 - m ≤ gk) := HG.out hs
        obtain ⟨⟨x0, x1, x2⟩, y0, y1, y2⟩ := trio_cell HX4.out
        have hz1 : B + 2 < w4.heap.size := by omega
        have hz2 : B < w4.heap.size := by omega
        have hz3 : B + 1 < w4.heap.size := by omega
        have hm4 : m' ≤ l.length := by omega
        have hmm : m < m' := by omega
        have hs'3 : s' ≤ 3 := by omega
        have HS' : Hid (s' = 1 ∨ s' = 3) := hs'
        clear hk hp hr4 hs' HX HX0 HROW HIN HBW HRD HRUN u0 u1 u2 v0 v1 v2
        go_wp2_with fail
        refine (bytesRead8_calls (B + 1) a l cap m' _ ?hr hl hm4).mono ?_
        case hr =>
          refine rdr_of HB.out (by rw [HBB.out]; exact ((HB4.out.setCell (by show B ≤ B + 2; omega) _).alloc (by rw [set_size]; omega) _)) ?_ (by rw [HBB.out]; omega)
          rw [Below.heap_alloc _ _ _ (by rw [set_size]; omega), set_other _ (by omega)]
          exact HR4.out.block
        rintro r w5 ⟨rfl, rfl⟩
        go_wp2
        go_roundg (if s' = 3 then 0 else l.length + 2 - m')
        case measure => have := HG4.out; split <;> omega
        case rel =>
          refine ⟨fs, vs, fo, fc, s', m', by simp; omega, hm4, hs'3, fun h => by have := HS'.out; omega, fun h => by rw [if_neg h]; omega, by omega, hdl, ?_, ?_, ?_, ?_, ?_, ?_, HRUN4⟩
          · show _ = _
            rw [Below.heap_alloc _ _ _ (by simp; omega)]
            exact set_block (i := 2) (set_block (i := 1) HX4.out _) _
          · show _ = _
            rw [Below.heap_alloc _ _ _ (by simp; omega), set_other _ (by omega), set_other _ (by omega)]
            exact HX04.out
          · exact World.ownsRow.alloc (ownsRow_setCell_below (ownsRow_setCell_below HROW4.out (by show B + 2 < B + 3; omega) _) (by show B + 2 < B + 3; omega) _) _
          · exact ((HIN4.out.low (by omega) _).low (by omega) _).below ((Below.refl _ _).alloc (Nat.le_refl _) _)
          · exact ((HB4.out.setCell (by show B ≤ B + 2; omega) _).setCell (by show B ≤ B + 2; omega) _).alloc (by simp; omega) _
          · refine rdr_of HB.out (by rw [HBB.out]; exact ((HB4.out.setCell (by show B ≤ B + 2; omega) _).setCell (by show B ≤ B + 2; omega) _).alloc (by simp; omega) _) ?_ (by rw [HBB.out]; omega)
            rw [Below.heap_alloc _ _ _ (by simp; omega), set_other _ (by omega), set_other _ (by omega)]
            exact HR4.out.block
      · obtain ⟨m', rfl⟩ : ∃ x, m' = 8 * x := ⟨m' / 8, by omega⟩
        have hs4 := hk.size
        have hst2 : stageOf out = 1 ∨ stageOf out = 2 := by unfold stageOf; split <;> omega
        have HRUN4 : Hid (Runs st (bitsIn l) (fs ++ [(ts, out)]) (stageOf out) ((bitsIn l).drop (8 * m'))) := by
          have := HRUN.out.trans (Runs.some hs hp (by rw [List.length_drop, List.length_drop]; omega) (by rw [hmd]; exact ho1) (by rw [hmd]; exact ho64) (Runs.stay _ _))
          rw [hmd] at this
          exact this
        have HX4 : Hid (w4.heap[B + 2]? = some (.cells #[.slice fo fs.length fc, .int .i64 s, .int .i64 m] 94 (0, 0))) := by
          show _ = _
          rw [hk.heap _ hsz (by omega)]; exact HX.out
        have HX04 : Hid (w4.heap[B]? = some (.cells #[.slice none 0 0, .int .i64 0, .int .i64 0] 94 (0, 0))) := by
          show _ = _
          rw [hk.heap _ (by omega) (by omega)]; exact HX0.out
        have HROW4 : Hid (w4.ownsRow (B + 3) 73 2 (.slice fo fs.length fc) fs.length vs) := row_one HROW.out hk (by omega)
        have HIN4 : Hid (InnerAt w4 (B + 3) vs fs) := HIN.out.one hk (by omega)
        have HB4 : Hid (Below B w w4) := HBW.out.trans (hk.below (by omega) hBw)
        have HR4 : Hid (RdrAt w4 (B + 1) a l cap (8 * m')) := hr4
        have HG4 : Hid (l.length + 2 - m ≤ gk) := HG.out hs
        subst hnT
        have HT : Hid (TokRow w4 (B + 3) (.slice ao ts.length cp) ts) := row_le hT (by omega)
        have HO : Hid (OwnB w4 (B + 3) (.slice bo out.length bp) out) := row_le hO (by omega)
        obtain ⟨⟨x0, x1, x2⟩, y0, y1, y2⟩ := trio_cell HX4.out
        have hz1 : B + 2 < w4.heap.size := by omega
        have hz2 : B < w4.heap.size := by omega
        have hz3 : B + 1 < w4.heap.size := by omega
        have hm4 : m' ≤ l.length := by omega
        have hmm : m < m' := by omega
        have HS' : Hid (stageOf out = 1 ∨ stageOf out = 2) := hst2
        have hsle : stageOf out ≤ 2 := by omega
        have hob : (0 : Int) < (out.length : Int) := by omega
        have hfm : fs.length < 5000 := by omega
        clear hk hp hr4 hT hO hst2 HX HX0 HROW HIN HBW HRD HRUN u0 u1 u2 v0 v1 v2
        go_wp2_with (at_builtin; refine wpList_append_own _ rfl _ _ 68 rfl (B + 3) 73 it (.agg #[.slice none 0 0, .slice none 0 0]) 2 48 Try.underlying68 hti htz0 htz1 htz2 rfl (by decide) _ _ _ rfl ((World.ownsRow.alloc HROW4.out _).alloc _) ⟨w4.heap.size + 1, 0, none⟩ 1 1 [.slice ao ts.length cp, .slice bo out.length bp] rfl rfl ?b1 ?b2 ?b3 ?b4 ?b5 ?_)
        case b1 => intro j u hj; exact cell_new2' _ _ (by simp) _ _ _ j u hj
        case b2 => intro u hu; simp at hu; rcases hu with rfl | rfl <;> rfl
        case b3 => unfold maxLen; omega
        case b4 => omega
        case b5 => first | omega | (simp; omega)
        intro v' w5 hown' hgrow _
        have hz5 : w4.heap.size + 2 ≤ w5.heap.size := by have := hgrow.size; simpa using this
        have hblk : ∀ k, k ≤ B + 2 → w5.heap[k]? = w4.heap[k]? := fun k h1 => by
          rw [hgrow.block k (by simp; omega) (fun e => by have := (World.ownsRow.lt HROW4.out k e.symm).1; omega), Below.heap_alloc _ _ _ (by simp; omega), Below.heap_alloc _ _ _ (by omega)]
        obtain ⟨fo', fc', rfl⟩ := row_form hown'
        have HX5 : Hid (w5.heap[B + 2]? = some (.cells #[.slice fo fs.length fc, .int .i64 s, .int .i64 m] 94 (0, 0))) := by
          show _ = _
          rw [hblk _ (Nat.le_refl _)]; exact HX4.out
        have HX05 : Hid (w5.heap[B]? = some (.cells #[.slice none 0 0, .int .i64 0, .int .i64 0] 94 (0, 0))) := by
          show _ = _
          rw [hblk _ (by omega)]; exact HX04.out
        have HRB5 : Hid (w5.heap[B + 1]? = some (.cells #[.slice a l.length cap, .int .i64 (8 * m' : Nat)] 125 (0, 0))) := by
          show _ = _
          rw [hblk _ (by omega)]; exact HR4.out.block
        have HB5 : Hid (Below B w w5) := ((HB4.out.alloc (by omega) _).alloc (by simp; omega) _).grown hgrow (by simp; omega) (fun k hk => by have := (World.ownsRow.lt HROW4.out k hk).1; omega)
        have HIN5 : Hid (InnerAt w5 (B + 3) (vs ++ [.slice ao ts.length cp, .slice bo out.length bp]) (fs ++ [(ts, out)])) :=
          InnerAt.snoc ((World.ownsRow.alloc HROW4.out _).alloc _) ((HIN4.out.below ((Below.refl _ _).alloc (Nat.le_refl _) _)).below ((Below.refl _ _).alloc (Nat.le_refl _) _)) (TokRow.alloc (TokRow.alloc HT.out _) _) (OwnB.alloc (OwnB.alloc HO.out _) _) ho1 hgrow
        have HROW5 : Hid (w5.ownsRow (B + 3) 73 2 (.slice fo' (fs.length + 1) fc') (fs.length + 1) (vs ++ [.slice ao ts.length cp, .slice bo out.length bp])) := hown'
        have hfl2 : (fs ++ [(ts, out)]).length = fs.length + 1 := by simp
        have hdl2 : (dataOf (fs ++ [(ts, out)])).length ≤ 64 * (fs.length + 1) := by
          have e : (dataOf (fs ++ [(ts, out)])).length = (dataOf fs).length + out.length := by simp [dataOf]
          rw [e]
          omega
        obtain ⟨⟨x0, x1, x2⟩, y0, y1, y2⟩ := trio_cell HX5.out
        have HFL2 : Hid _ := hfl2
        clear hown' hgrow HROW4 HIN4 HX4 HX04 HR4 HT HO hfl2 HB4 hblk
        generalize hSO : stageOf out = so at *
        have HSO : Hid (stageOf out = so) := hSO
        clear hSO
        go_wp2_with fail
        refine (bytesRead8_calls (B + 1) a l cap m' _ ?hr2 hl hm4).mono ?_
        case hr2 =>
          refine rdr_of HB.out (by rw [HBB.out]; exact (HB5.out.setCell (by show B ≤ B + 2; omega) _).setCell (by show B ≤ B + 2; omega) _) ?_ (by rw [HBB.out]; omega)
          rw [set_other _ (by omega), set_other _ (by omega)]
          exact HRB5.out
        rintro r w6 ⟨rfl, rfl⟩
        go_wp2
        go_roundg (l.length + 2 - m')
        case measure => have := HG4.out; omega
        case rel =>
          refine ⟨fs ++ [(ts, out)], _, fo', fc', so, m', by simp; omega, hm4, by omega, fun h => by have := HS'.out; omega, fun h => Nat.le_refl _, by rw [HFL2.out]; omega, by rw [HFL2.out]; exact hdl2, ?_, ?_, ?_, set3_inner HIN5.out (by omega) _ _ _, set3_below HB5.out (by omega) _ _ _, ?_, HRUN4⟩
          · rw [HFL2.out]; exact set3_box HX5.out _ _ _
          · show _ = _
            exact (set3_other (by omega) _ _ _).trans HX05.out
          · rw [HFL2.out]; exact set3_row HROW5.out (by omega) _ _ _
          · refine rdr_of HB.out (by rw [HBB.out]; exact set3_below HB5.out (by omega) _ _ _) ?_ (by rw [HBB.out]; omega)
            exact (set3_other (by omega) _ _ _).trans HRB5.out
end Go.Proofs.Ytnpnaglgllcpfab
