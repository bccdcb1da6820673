/-
  Lemmas for the law All: Ahd.
-/
import Derived.Test.YtnpnaglgllcpfaaGreatM28
/- How many best lists go ahead at a place: pressref.ahead. -/
namespace Go.Proofs.YtnpnaglgllcpfaaGreat
set_option maxRecDepth 100000
open Go.RowKit
open Dp

set_option maxHeartbeats 2000000 in
theorem ahead_calls (a : Option Addr) (p : List UInt8) (cap : Nat) (q gc gw cc cw : Nat) (cs ws : List Int) (i : Nat) (tl td tb : Int) (w : World) (hp : p.length ≤ 64) (hb : BytesAt w a p) (hk : KnownAt w q gc gw cc cw cs ws) (hr : Rep p.length cs ws (fun j => (net p).to j)) (hi : i < p.length) :
    Calls Tryz.prog 110 #[.slice a p.length cap, .pointer (some ⟨q, 0, none⟩), .int .i64 i, .agg #[.int .i64 tl, .int .i64 td, .int .i64 tb]] w fun e w' => Below w.heap.size w w' ∧ e = .returned (.int .i64 (aheadN p i ⟨tl, td, tb⟩)) := by
  have HB : Hid (BytesAt w a p) := hb
  have HK : Hid (KnownAt w q gc gw cc cw cs ws) := hk
  have HR : Hid (Rep p.length cs ws (fun j => (net p).to j)) := hr
  clear hb hk hr
  go_enter Tryz.func110, Tryz.ntmps110
  go_wp2_with fail
  have hbx : Below w.heap.size w (w.alloc (.cells #[.int .i64 tl, .int .i64 td, .int .i64 tb] 42)) := (Below.refl _ _).alloc (Nat.le_refl _) _
  have hxw : Box (w.alloc (.cells #[.int .i64 tl, .int .i64 td, .int .i64 tb] 42)) w.heap.size tl td tb := heap_alloc_new w _
  have hz0 : (w.alloc (.cells #[.int .i64 tl, .int .i64 td, .int .i64 tb] 42)).heap.size = w.heap.size + 1 := by simp
  generalize w.alloc (.cells #[.int .i64 tl, .int .i64 td, .int .i64 tb] 42) = w0 at *
  refine (widths_calls w0).mono ?_
  rintro e w1 ⟨hb1, v, rfl, hw1⟩
  have HB1 : Hid (Below w.heap.size w w1) := hbx.trans (hb1.mono (by omega))
  have HK1 : Hid (KnownAt w1 q gc gw cc cw cs ws) := HK.out.below HB1.out
  have HBY1 : Hid (BytesAt w1 a p) := bytesAt_below2 HB.out HB1.out
  have HX1 : Hid (Box w1 w.heap.size tl td tb) := hxw.below hb1 (by omega)
  obtain ⟨gv, vc, rfl, hwc⟩ := hw1.at (by omega)
  have HWC : Hid _ := hwc
  have hgv : w0.heap.size ≤ gv ∧ gv < w1.heap.size := World.ownsRow.lt hw1 gv rfl
  have hs1 := hb1.size
  obtain ⟨x0, x1, x2⟩ := HX1.out.cell
  obtain ⟨b, off, ha, hcell⟩ : ∃ b off, a = some ⟨b, off, none⟩ ∧ ∀ j, j < p.length → w1.cell? ⟨b, off + j, none⟩ = some (.int .u8 (p.getD j 0).toNat) := by
    rcases HBY1.out with h | h
    · rw [h] at hi; simp at hi
    · exact h
  subst ha
  have hc := hcell i hi
  have hcn : (p.getD i 0).toNat < 256 := (p.getD i 0).toNat_lt
  have hC0 := (HR.out.toAt i (by omega)).1
  obtain ⟨hC1, hW1⟩ := HR.out.toAt (i + 1) (by omega)
  obtain ⟨a0, a1, a2, z1, z2, z3⟩ := HK1.out.cells i (by have := HR.out.lc; omega) (by have := HR.out.lw; omega)
  obtain ⟨z4, z5, a3, a4, z6, z7⟩ := HK1.out.cells (i + 1) (by have := HR.out.lc; omega) (by have := HR.out.lw; omega)
  rw [hC0] at a2
  rw [hC1] at a3
  rw [hW1] at a4
  have hcl := HR.out.lc
  have hwl := HR.out.lw
  have hI1 : 0 ≤ (i : Int) ∧ (i : Int) < (cs.length : Int) := by omega
  have hI2 : 0 ≤ (i : Int) + 1 ∧ (i : Int) + 1 < (cs.length : Int) := by omega
  have hI3 : 0 ≤ (i : Int) + 1 ∧ (i : Int) + 1 < (ws.length : Int) := by omega
  have hI4 : 0 ≤ (i : Int) ∧ (i : Int) < (p.length : Int) := by omega
  have HCL : Hid _ := hcl
  have HWL : Hid _ := hwl
  have HLIT : Hid (literal p i = ⟨1, 0, (p.getD i 0).toNat⟩) := rfl
  have HAW : Hid (aw p i ⟨tl, td, tb⟩ (literal p i) = if beforeB ⟨1, 0, (p.getD i 0).toNat⟩ ⟨tl, td, tb⟩ = true ∧ 9 + toC p (i + 1) = toC p i then capW p (i + 1) else 0) := rfl
  have HCW := capW_le p (i + 1)
  have HC1 := toC_le p (i + 1) (by omega)
  generalize hcc : p.getD i 0 = c at *
  generalize hT0 : toC p i = T0 at *
  generalize hT1 : toC p (i + 1) = T1 at *
  generalize hV1 : capW p (i + 1) = V1 at *
  have HT0 : Hid (toC p i = T0) := hT0
  clear hb1 hw1 hwc hbx hxw hcell hC0 hC1 hW1 hcl hwl hcc hT0 hT1 hV1 z1 z2 z3 z4 z5 z6 z7
  go_wp2_with fail
  have hbl : Below w1.heap.size w1 (w1.alloc (.cells #[.int .i64 1, .int .i64 0, .int .i64 c.toNat] 42)) := (Below.refl _ _).alloc (Nat.le_refl _) _
  have hxl : Box (w1.alloc (.cells #[.int .i64 1, .int .i64 0, .int .i64 c.toNat] 42)) w1.heap.size 1 0 c.toNat := heap_alloc_new w1 _
  have hzl : (w1.alloc (.cells #[.int .i64 1, .int .i64 0, .int .i64 c.toNat] 42)).heap.size = w1.heap.size + 1 := by simp
  generalize w1.alloc (.cells #[.int .i64 1, .int .i64 0, .int .i64 c.toNat] 42) = w2 at *
  obtain ⟨l0, l1, l2⟩ := hxl.cell
  have y0 := cell_kept hbl x0
  have y1 := cell_kept hbl x1
  have y2 := cell_kept hbl x2
  have d0 := cell_kept hbl a0
  have d1 := cell_kept hbl a1
  have d2 := cell_kept hbl a2
  have d3 := cell_kept hbl a3
  have d4 := cell_kept hbl a4
  have HB2 : Hid (Below w.heap.size w w2) := HB1.out.trans (hbl.mono HB1.out.size)
  have HB12 : Hid (Below w1.heap.size w1 w2) := hbl
  have hwi1 : IntKind.i64.wrap ((i : Int) + 1) = (i : Int) + 1 := wrapEq _ (by omega)
  have hwt : IntKind.i64.wrap ((T1 : Int) + 9) = (T1 : Int) + 9 := wrapEq _ (by omega)
  have HA0 : Hid (w1.cell? ⟨q, 0, none⟩ = some (.slice (some ⟨gc, 0, none⟩) cs.length cc)) := a0
  have HA1 : Hid (w1.cell? ⟨q, 1, none⟩ = some (.slice (some ⟨gw, 0, none⟩) ws.length cw)) := a1
  have HA2 : Hid (w1.cell? ⟨gc, i, none⟩ = some (.int .i64 T0)) := a2
  have HY : Hid (w1.cell? ⟨w.heap.size, 0, none⟩ = some (.int .i64 tl) ∧ w1.cell? ⟨w.heap.size, 1, none⟩ = some (.int .i64 td) ∧ w1.cell? ⟨w.heap.size, 2, none⟩ = some (.int .i64 tb)) := ⟨x0, x1, x2⟩
  clear a0 a1 a2 a3 a4 x0 x1 x2 hc hxl hbl
  have e0 := above_cell l0
  have e1 := above_cell l1
  have e2 := above_cell l2
  have e3 := above_cell y0
  have e4 := above_cell y1
  have e5 := above_cell y2
  have e6 := above_cell d0
  have e7 := above_cell d2
  have e8 := above_cell d3
  cases hbb : beforeB ⟨1, 0, c.toNat⟩ ⟨tl, td, tb⟩ with
  | false =>
    have HN : Hid (Value.int .i64 0 = .int .i64 ((awTo p i ⟨tl, td, tb⟩ 0 : Nat) : Int)) := by
      show _ = _
      have : awTo p i ⟨tl, td, tb⟩ 0 = 0 := by
        show aw p i ⟨tl, td, tb⟩ (literal p i) + 0 = 0
        rw [HAW.out, hbb, if_neg (by simp)]
      rw [this]; rfl
    have HBF : Hid (∀ W : World, Calls Tryz.prog 120 #[.agg #[.int .i64 1, .int .i64 0, .int .i64 c.toNat], .agg #[.int .i64 tl, .int .i64 td, .int .i64 tb]] W fun r w' => r = .returned (.bool false) ∧ Below W.heap.size W w') := fun W => by
      have := before_calls 1 0 c.toNat tl td tb W
      rw [hbb] at this
      exact this
    clear hbb
    refine wp_region_above (W := w2) (Below.refl _ _) (by kernel_rfl) (by kernel_rfl) ?_
    repeat (go_big_quiet_step ((go_at_call 120; exact Calls.above_of (HBF.out _))))
    refine wpQuiet_nil ?_
    rintro _ ⟨X, rfl⟩
    have HB3 : Hid (Below w1.heap.size w1 (above w2 X)) := HB12.out.trans ((above_below w2 X).mono HB12.out.size)
    clear e0 e1 e2 e3 e4 e5 e6 e7 e8 l0 l1 l2 y0 y1 y2 d0 d1 d2 d3 d4
    generalize above w2 X = w3 at *
    go_wp2_with fail
    go_loopg [9, 12] 33 (fun g nv dv wr => ∃ D : Nat, D ≤ 32 ∧ D ≤ i ∧ g = 33 - D ∧ dv = .int .i64 ((D : Int) + 1) ∧ nv = .int .i64 (awTo p i ⟨tl, td, tb⟩ D) ∧ Hid (Below w1.heap.size w1 wr))
    case atStart => exact ⟨0, by omega, by omega, rfl, rfl, HN.out, HB3⟩
    case round =>
      obtain ⟨D, hD1, hD2, hg1, rfl, rfl, HB4⟩ := hrel
      have HG1 : Hid _ := hg1
      have hle := awTo_le p i ⟨tl, td, tb⟩ hp (by omega) D
      clear hg1
      by_cases hgo : D + 1 ≤ 32 ∧ D + 1 ≤ i
      · have hd1 : (D : Int) + 1 ≤ 32 := by omega
        have hd2 : (D : Int) + 1 ≤ (i : Int) := by omega
        have HCD : Hid ((D : Int) + 1 = ((D + 1 : Nat) : Int)) := by show _ = _; omega
        generalize hS : awTo p i ⟨tl, td, tb⟩ D = S0 at *
        have HS : Hid (awTo p i ⟨tl, td, tb⟩ D = S0) := hS
        clear hS
        go_wp2_with fail
        rw [HCD.out]
        refine (alike_is _ p cap i (D + 1) wr hp (bytesAt_below2 HBY1.out HB4.out) (by omega) (by omega) (by omega)).mono ?_
        rintro e w5 ⟨rfl, nd, rfl⟩
        have HB5 : Hid (Below w1.heap.size w1 (wr.drewN nd)) := below_drewN HB4.out nd
        have hal := (alk_most p i (D + 1) (by omega)).1.1
        generalize wr.drewN nd = w5 at *
        generalize hA : alk p i (D + 1) = n at *
        have HA : Hid (alk p i (D + 1) = n) := hA
        clear hA
        go_wp2_with fail
        go_loopg [9, 14] 65 (fun g nv lv wr => ∃ j : Nat, j ≤ n - 1 ∧ g = 65 - j ∧ lv = .int .i64 ((j : Int) + 2) ∧ nv = .int .i64 ((S0 + awIn p i ⟨tl, td, tb⟩ (D + 1) j : Nat) : Int) ∧ Hid (Below w1.heap.size w1 wr))
        case atStart => exact ⟨0, by omega, rfl, rfl, rfl, HB5⟩
        case round =>
          obtain ⟨j, hj, hg2, rfl, rfl, HB6⟩ := hrel
          have HG2 : Hid _ := hg2
          clear hg2
          have hli := awIn_le p i ⟨tl, td, tb⟩ (D + 1) j
          by_cases hln : j + 2 ≤ n
          · obtain ⟨l, hl2⟩ : ∃ l : Nat, l = j + 2 := ⟨_, rfl⟩
            have HL2 : Hid (l = j + 2) := hl2
            have hlj : l ≤ j + 2 ∧ j + 2 ≤ l := by omega
            have hL : (j : Int) + 2 = (l : Int) := by omega
            rw [hL]
            have HLI : Hid ((j : Int) + 2 = (l : Int)) := hL
            clear hl2 hL
            have hln' : (l : Int) ≤ (n : Int) := by omega
            obtain ⟨m, hm⟩ : ∃ m : Nat, m = i + l := ⟨_, rfl⟩
            have hmi : m ≤ i + l ∧ i + l ≤ m := by omega
            obtain ⟨hC2, hW2⟩ := HR.out.toAt m (by omega)
            obtain ⟨z1, z2, f2, f3, z3, z4⟩ := HK1.out.cells m (by have := HCL.out; omega) (by have := HWL.out; omega)
            rw [hC2] at f2
            rw [hW2] at f3
            have HAS : Hid (awIn p i ⟨tl, td, tb⟩ (D + 1) (j + 1) = awIn p i ⟨tl, td, tb⟩ (D + 1) j + aw p i ⟨tl, td, tb⟩ ⟨(l : Int), (D : Int) + 1, 0⟩) := by
              show _ = _
              rw [awIn_succ, ← HLI.out]
              rfl
            have HAW2 : Hid (aw p i ⟨tl, td, tb⟩ ⟨(l : Int), (D : Int) + 1, 0⟩ = if beforeB ⟨(l : Int), (D : Int) + 1, 0⟩ ⟨tl, td, tb⟩ = true ∧ (1 + Tok.numLen (l - 1) + Tok.numLen (D + 1)) + toC p m = T0 then capW p m else 0) := by
              show _ = _
              unfold aw
              rw [show (Tok.mk (l : Int) ((D : Int) + 1) 0).len.toNat = l from Int.toNat_natCast l, ← hm, HT0.out]
              have := cost_copy (l - 2) (D + 1) (by omega)
              rw [show ((l - 2 : Nat) : Int) + 2 = (l : Int) by omega, show l - 2 + 1 = l - 1 by omega, show ((D + 1 : Nat) : Int) = (D : Int) + 1 by omega] at this
              rw [this]
            have hVm := capW_le p m
            have hTm := toC_le p m (by omega)
            have b1 : wr.cell? ⟨gv, l - 1, none⟩ = some (.int .i64 ((Tok.numLen (l - 1) : Nat) : Int)) := by
              rw [← wid_pos (l - 1) (by omega)]
              exact cell_kept HB6.out (HWC.out (l - 1) (by omega))
            have b2 : wr.cell? ⟨gv, D + 1, none⟩ = some (.int .i64 ((Tok.numLen (D + 1) : Nat) : Int)) := by
              rw [← wid_pos (D + 1) (by omega)]
              exact cell_kept HB6.out (HWC.out (D + 1) (by omega))
            have hn1 := numLen_le (l - 1) (by omega)
            have hn2 := numLen_le (D + 1) (by omega)
            generalize hI0 : awIn p i ⟨tl, td, tb⟩ (D + 1) j = I0 at *
            generalize Tok.numLen (l - 1) = N1 at *
            generalize Tok.numLen (D + 1) = N2 at *
            generalize toC p m = Tm at *
            generalize capW p m = Vm at *
            have hjI : 0 ≤ ((l - 1 : Nat) : Int) ∧ ((l - 1 : Nat) : Int) < 65 := by omega
            have hdI : 0 ≤ (D : Int) + 1 ∧ (D : Int) + 1 < 65 := by omega
            have hwj : IntKind.i64.wrap ((l : Int) - 1) = ((l - 1 : Nat) : Int) := by rw [wrapEq _ (by omega)]; omega
            have hmI : 0 ≤ (m : Int) ∧ (m : Int) < (cs.length : Int) := by have := HCL.out; omega
            have hmI2 : 0 ≤ (m : Int) ∧ (m : Int) < (ws.length : Int) := by have := HWL.out; omega
            have hwm : IntKind.i64.wrap ((i : Int) + (l : Int)) = (m : Int) := by rw [wrapEq _ (by omega)]; omega
            have HF2 : Hid (w1.cell? ⟨gc, m, none⟩ = some (.int .i64 Tm)) := f2
            have HF3 : Hid (w1.cell? ⟨gw, m, none⟩ = some (.int .i64 Vm)) := f3
            clear hC2 hW2 z1 z2 z3 z4 f2 f3 hm
            go_wp2_with fail
            have hbx : Below w1.heap.size w1 (wr.alloc (.cells #[.int .i64 l, .int .i64 ((D : Int) + 1), .int .i64 0] 42)) := HB6.out.alloc HB6.out.size _
            have hxx : Box (wr.alloc (.cells #[.int .i64 l, .int .i64 ((D : Int) + 1), .int .i64 0] 42)) wr.heap.size l ((D : Int) + 1) 0 := heap_alloc_new wr _
            have hbw : Below wr.heap.size wr (wr.alloc (.cells #[.int .i64 l, .int .i64 ((D : Int) + 1), .int .i64 0] 42)) := (Below.refl _ _).alloc (Nat.le_refl _) _
            have b1 := cell_kept hbw b1
            have b2 := cell_kept hbw b2
            have HB7 : Hid (Below w1.heap.size w1 (wr.alloc (.cells #[.int .i64 l, .int .i64 ((D : Int) + 1), .int .i64 0] 42))) := hbx
            have HX7 : Hid (Box (wr.alloc (.cells #[.int .i64 l, .int .i64 ((D : Int) + 1), .int .i64 0] 42)) wr.heap.size l ((D : Int) + 1) 0) := hxx
            clear hbx hxx hbw
            generalize wr.alloc (.cells #[.int .i64 l, .int .i64 ((D : Int) + 1), .int .i64 0] 42) = w6 at *
            go_quiet (fail)
            have HB8 : Hid (Below w1.heap.size w1 (w6.drewN nq)) := below_drewN HB7.out nq
            have HX8 : Hid (Box (w6.drewN nq) wr.heap.size l ((D : Int) + 1) 0) := HX7.out
            clear HB7 HX7 b1 b2
            generalize w6.drewN nq = w7 at *
            obtain ⟨l0, l1, l2⟩ := HX8.out.cell
            have e0 := above_cell l0
            have e1 := above_cell l1
            have e2 := above_cell l2
            have e3 := above_cell (cell_kept HB8.out HY.out.1)
            have e4 := above_cell (cell_kept HB8.out HY.out.2.1)
            have e5 := above_cell (cell_kept HB8.out HY.out.2.2)
            have e6 := above_cell (cell_kept HB8.out HA0.out)
            have e7 := above_cell (cell_kept HB8.out HA2.out)
            have e8 := above_cell (cell_kept HB8.out HF2.out)
            cases hbb : beforeB ⟨(l : Int), (D : Int) + 1, 0⟩ ⟨tl, td, tb⟩ with
            | false =>
              have HZ : Hid (awIn p i ⟨tl, td, tb⟩ (D + 1) (j + 1) = I0) := by
                show _ = _
                rw [HAS.out, HAW2.out, hbb, if_neg (by simp), Nat.add_zero]
              have HBF : Hid (∀ W : World, Calls Tryz.prog 120 #[.agg #[.int .i64 l, .int .i64 ((D : Int) + 1), .int .i64 0], .agg #[.int .i64 tl, .int .i64 td, .int .i64 tb]] W fun r w' => r = .returned (.bool false) ∧ Below W.heap.size W w') := fun W => by
                have := before_calls l ((D : Int) + 1) 0 tl td tb W
                rw [hbb] at this
                exact this
              clear hbb
              go_wp2_with fail
              refine wp_region_above (W := w7) (Below.refl _ _) (by kernel_rfl) (by kernel_rfl) ?_
              repeat (go_big_quiet_step ((go_at_call 120; exact Calls.above_of (HBF.out _))))
              refine wpQuiet_nil ?_
              rintro _ ⟨X, rfl⟩
              have HB9 : Hid (Below w1.heap.size w1 (above w7 X)) := HB8.out.trans ((above_below w7 X).mono HB8.out.size)
              clear e0 e1 e2 e3 e4 e5 e6 e7 e8 l0 l1 l2
              generalize above w7 X = w8 at *
              go_wp2
              go_roundg (65 - (j + 1))
              case measure => have := HG2.out; omega
              case rel => exact ⟨j + 1, by omega, rfl, by rw [← HLI.out]; go_num, by rw [HZ.out], HB9⟩
            | true =>
              have HBF : Hid (∀ W : World, Calls Tryz.prog 120 #[.agg #[.int .i64 l, .int .i64 ((D : Int) + 1), .int .i64 0], .agg #[.int .i64 tl, .int .i64 td, .int .i64 tb]] W fun r w' => r = .returned (.bool true) ∧ Below W.heap.size W w') := fun W => by
                have := before_calls l ((D : Int) + 1) 0 tl td tb W
                rw [hbb] at this
                exact this
              by_cases heq : (1 + N1 + N2) + Tm = T0
              · have HZ : Hid (awIn p i ⟨tl, td, tb⟩ (D + 1) (j + 1) = I0 + Vm) := by
                  show _ = _
                  rw [HAS.out, HAW2.out, hbb, if_pos ⟨rfl, heq⟩]
                have hq1 : (1 + (N1 : Int) + (N2 : Int) + (Tm : Int) == (T0 : Int)) = true := by simp; omega
                clear hbb heq
                go_wp2_with fail
                refine wp_region_above (W := w7) (Below.refl _ _) (by kernel_rfl) (by kernel_rfl) ?_
                repeat (go_big_quiet_step ((go_at_call 120; exact Calls.above_of (HBF.out _))))
                refine wpQuiet_nil ?_
                rintro _ ⟨X, rfl⟩
                have HB9 : Hid (Below w1.heap.size w1 (above w7 X)) := HB8.out.trans ((above_below w7 X).mono HB8.out.size)
                clear e0 e1 e2 e3 e4 e5 e6 e7 e8 l0 l1 l2
                generalize above w7 X = w8 at *
                have g1 := cell_kept HB9.out HA1.out
                have g2 := cell_kept HB9.out HF3.out
                go_wp2
                go_roundg (65 - (j + 1))
                case measure => have := HG2.out; omega
                case rel => exact ⟨j + 1, by omega, rfl, by rw [← HLI.out]; go_num, by rw [HZ.out]; go_num, HB9⟩
              · have HZ : Hid (awIn p i ⟨tl, td, tb⟩ (D + 1) (j + 1) = I0) := by
                  show _ = _
                  rw [HAS.out, HAW2.out, if_neg (fun h => heq h.2), Nat.add_zero]
                have hq1 : (1 + (N1 : Int) + (N2 : Int) + (Tm : Int) == (T0 : Int)) = false := by simp; omega
                clear hbb heq
                go_wp2_with fail
                refine wp_region_above (W := w7) (Below.refl _ _) (by kernel_rfl) (by kernel_rfl) ?_
                repeat (go_big_quiet_step ((go_at_call 120; exact Calls.above_of (HBF.out _))))
                refine wpQuiet_nil ?_
                rintro _ ⟨X, rfl⟩
                have HB9 : Hid (Below w1.heap.size w1 (above w7 X)) := HB8.out.trans ((above_below w7 X).mono HB8.out.size)
                clear e0 e1 e2 e3 e4 e5 e6 e7 e8 l0 l1 l2
                generalize above w7 X = w8 at *
                go_wp2
                go_roundg (65 - (j + 1))
                case measure => have := HG2.out; omega
                case rel => exact ⟨j + 1, by omega, rfl, by rw [← HLI.out]; go_num, by rw [HZ.out], HB9⟩
          · have hjn : j = n - 1 := by omega
            have HZ : Hid (awTo p i ⟨tl, td, tb⟩ (D + 1) = S0 + awIn p i ⟨tl, td, tb⟩ (D + 1) j) := by
              show _ = _
              rw [awTo_succ, HS.out, HA.out, ← hjn]
            have hln' : ¬ (j : Int) + 2 ≤ (n : Int) := by omega
            clear hjn
            generalize awIn p i ⟨tl, td, tb⟩ (D + 1) j = I0 at *
            go_wp2
            go_roundg (33 - (D + 1))
            case measure => have := HG1.out; omega
            case rel => exact ⟨D + 1, by omega, by omega, rfl, by go_num, by rw [HZ.out]; go_num, HB6⟩
      · have HZ : Hid (aheadN p i ⟨tl, td, tb⟩ = awTo p i ⟨tl, td, tb⟩ D) := by
          show _ = _
          rw [aheadN_is, show min 32 i = D by omega]
        generalize hS : awTo p i ⟨tl, td, tb⟩ D = S0 at *
        clear hS
        by_cases h32 : (D : Int) + 1 ≤ 32
        · have hdi : ¬ (D : Int) + 1 ≤ (i : Int) := by omega
          clear hgo
          go_wp2
          go_ret
          exact ⟨HB1.out.trans (HB4.out.mono HB1.out.size), by rw [HZ.out]; rfl⟩
        · clear hgo
          go_wp2
          go_ret
          exact ⟨HB1.out.trans (HB4.out.mono HB1.out.size), by rw [HZ.out]; rfl⟩
  | true =>
    have HBF : Hid (∀ W : World, Calls Tryz.prog 120 #[.agg #[.int .i64 1, .int .i64 0, .int .i64 c.toNat], .agg #[.int .i64 tl, .int .i64 td, .int .i64 tb]] W fun r w' => r = .returned (.bool true) ∧ Below W.heap.size W w') := fun W => by
      have := before_calls 1 0 c.toNat tl td tb W
      rw [hbb] at this
      exact this
    by_cases heq : 9 + T1 = T0
    · have HN : Hid (Value.int .i64 (V1 : Int) = .int .i64 ((awTo p i ⟨tl, td, tb⟩ 0 : Nat) : Int)) := by
        show _ = _
        have : awTo p i ⟨tl, td, tb⟩ 0 = V1 := by
          show aw p i ⟨tl, td, tb⟩ (literal p i) + 0 = V1
          rw [HAW.out, hbb, if_pos ⟨rfl, heq⟩, Nat.add_zero]
        rw [this]
      have hq1 : ((T1 : Int) + 9 == (T0 : Int)) = true := by simp; omega
      clear hbb heq
      refine wp_region_above (W := w2) (Below.refl _ _) (by kernel_rfl) (by kernel_rfl) ?_
      repeat (go_big_quiet_step ((go_at_call 120; exact Calls.above_of (HBF.out _))))
      refine wpQuiet_nil ?_
      rintro _ ⟨X, rfl⟩
      have HB3 : Hid (Below w1.heap.size w1 (above w2 X)) := HB12.out.trans ((above_below w2 X).mono HB12.out.size)
      have g1 := cell_kept (above_below w2 X) d1
      have g2 := cell_kept (above_below w2 X) d4
      clear e0 e1 e2 e3 e4 e5 e6 e7 e8 l0 l1 l2 y0 y1 y2 d0 d1 d2 d3 d4
      generalize above w2 X = w3 at *
      go_wp2_with fail
      clear g1 g2
      go_loopg [9, 12] 33 (fun g nv dv wr => ∃ D : Nat, D ≤ 32 ∧ D ≤ i ∧ g = 33 - D ∧ dv = .int .i64 ((D : Int) + 1) ∧ nv = .int .i64 (awTo p i ⟨tl, td, tb⟩ D) ∧ Hid (Below w1.heap.size w1 wr))
      case atStart => exact ⟨0, by omega, by omega, rfl, rfl, HN.out, HB3⟩
      case round =>
        obtain ⟨D, hD1, hD2, hg1, rfl, rfl, HB4⟩ := hrel
        have HG1 : Hid _ := hg1
        have hle := awTo_le p i ⟨tl, td, tb⟩ hp (by omega) D
        clear hg1
        by_cases hgo : D + 1 ≤ 32 ∧ D + 1 ≤ i
        · have hd1 : (D : Int) + 1 ≤ 32 := by omega
          have hd2 : (D : Int) + 1 ≤ (i : Int) := by omega
          have HCD : Hid ((D : Int) + 1 = ((D + 1 : Nat) : Int)) := by show _ = _; omega
          generalize hS : awTo p i ⟨tl, td, tb⟩ D = S0 at *
          have HS : Hid (awTo p i ⟨tl, td, tb⟩ D = S0) := hS
          clear hS
          go_wp2_with fail
          rw [HCD.out]
          refine (alike_is _ p cap i (D + 1) wr hp (bytesAt_below2 HBY1.out HB4.out) (by omega) (by omega) (by omega)).mono ?_
          rintro e w5 ⟨rfl, nd, rfl⟩
          have HB5 : Hid (Below w1.heap.size w1 (wr.drewN nd)) := below_drewN HB4.out nd
          have hal := (alk_most p i (D + 1) (by omega)).1.1
          generalize wr.drewN nd = w5 at *
          generalize hA : alk p i (D + 1) = n at *
          have HA : Hid (alk p i (D + 1) = n) := hA
          clear hA
          go_wp2_with fail
          go_loopg [9, 14] 65 (fun g nv lv wr => ∃ j : Nat, j ≤ n - 1 ∧ g = 65 - j ∧ lv = .int .i64 ((j : Int) + 2) ∧ nv = .int .i64 ((S0 + awIn p i ⟨tl, td, tb⟩ (D + 1) j : Nat) : Int) ∧ Hid (Below w1.heap.size w1 wr))
          case atStart => exact ⟨0, by omega, rfl, rfl, rfl, HB5⟩
          case round =>
            obtain ⟨j, hj, hg2, rfl, rfl, HB6⟩ := hrel
            have HG2 : Hid _ := hg2
            clear hg2
            have hli := awIn_le p i ⟨tl, td, tb⟩ (D + 1) j
            by_cases hln : j + 2 ≤ n
            · obtain ⟨l, hl2⟩ : ∃ l : Nat, l = j + 2 := ⟨_, rfl⟩
              have HL2 : Hid (l = j + 2) := hl2
              have hlj : l ≤ j + 2 ∧ j + 2 ≤ l := by omega
              have hL : (j : Int) + 2 = (l : Int) := by omega
              rw [hL]
              have HLI : Hid ((j : Int) + 2 = (l : Int)) := hL
              clear hl2 hL
              have hln' : (l : Int) ≤ (n : Int) := by omega
              obtain ⟨m, hm⟩ : ∃ m : Nat, m = i + l := ⟨_, rfl⟩
              have hmi : m ≤ i + l ∧ i + l ≤ m := by omega
              obtain ⟨hC2, hW2⟩ := HR.out.toAt m (by omega)
              obtain ⟨z1, z2, f2, f3, z3, z4⟩ := HK1.out.cells m (by have := HCL.out; omega) (by have := HWL.out; omega)
              rw [hC2] at f2
              rw [hW2] at f3
              have HAS : Hid (awIn p i ⟨tl, td, tb⟩ (D + 1) (j + 1) = awIn p i ⟨tl, td, tb⟩ (D + 1) j + aw p i ⟨tl, td, tb⟩ ⟨(l : Int), (D : Int) + 1, 0⟩) := by
                show _ = _
                rw [awIn_succ, ← HLI.out]
                rfl
              have HAW2 : Hid (aw p i ⟨tl, td, tb⟩ ⟨(l : Int), (D : Int) + 1, 0⟩ = if beforeB ⟨(l : Int), (D : Int) + 1, 0⟩ ⟨tl, td, tb⟩ = true ∧ (1 + Tok.numLen (l - 1) + Tok.numLen (D + 1)) + toC p m = T0 then capW p m else 0) := by
                show _ = _
                unfold aw
                rw [show (Tok.mk (l : Int) ((D : Int) + 1) 0).len.toNat = l from Int.toNat_natCast l, ← hm, HT0.out]
                have := cost_copy (l - 2) (D + 1) (by omega)
                rw [show ((l - 2 : Nat) : Int) + 2 = (l : Int) by omega, show l - 2 + 1 = l - 1 by omega, show ((D + 1 : Nat) : Int) = (D : Int) + 1 by omega] at this
                rw [this]
              have hVm := capW_le p m
              have hTm := toC_le p m (by omega)
              have b1 : wr.cell? ⟨gv, l - 1, none⟩ = some (.int .i64 ((Tok.numLen (l - 1) : Nat) : Int)) := by
                rw [← wid_pos (l - 1) (by omega)]
                exact cell_kept HB6.out (HWC.out (l - 1) (by omega))
              have b2 : wr.cell? ⟨gv, D + 1, none⟩ = some (.int .i64 ((Tok.numLen (D + 1) : Nat) : Int)) := by
                rw [← wid_pos (D + 1) (by omega)]
                exact cell_kept HB6.out (HWC.out (D + 1) (by omega))
              have hn1 := numLen_le (l - 1) (by omega)
              have hn2 := numLen_le (D + 1) (by omega)
              generalize hI0 : awIn p i ⟨tl, td, tb⟩ (D + 1) j = I0 at *
              generalize Tok.numLen (l - 1) = N1 at *
              generalize Tok.numLen (D + 1) = N2 at *
              generalize toC p m = Tm at *
              generalize capW p m = Vm at *
              have hjI : 0 ≤ ((l - 1 : Nat) : Int) ∧ ((l - 1 : Nat) : Int) < 65 := by omega
              have hdI : 0 ≤ (D : Int) + 1 ∧ (D : Int) + 1 < 65 := by omega
              have hwj : IntKind.i64.wrap ((l : Int) - 1) = ((l - 1 : Nat) : Int) := by rw [wrapEq _ (by omega)]; omega
              have hmI : 0 ≤ (m : Int) ∧ (m : Int) < (cs.length : Int) := by have := HCL.out; omega
              have hmI2 : 0 ≤ (m : Int) ∧ (m : Int) < (ws.length : Int) := by have := HWL.out; omega
              have hwm : IntKind.i64.wrap ((i : Int) + (l : Int)) = (m : Int) := by rw [wrapEq _ (by omega)]; omega
              have HF2 : Hid (w1.cell? ⟨gc, m, none⟩ = some (.int .i64 Tm)) := f2
              have HF3 : Hid (w1.cell? ⟨gw, m, none⟩ = some (.int .i64 Vm)) := f3
              clear hC2 hW2 z1 z2 z3 z4 f2 f3 hm
              go_wp2_with fail
              have hbx : Below w1.heap.size w1 (wr.alloc (.cells #[.int .i64 l, .int .i64 ((D : Int) + 1), .int .i64 0] 42)) := HB6.out.alloc HB6.out.size _
              have hxx : Box (wr.alloc (.cells #[.int .i64 l, .int .i64 ((D : Int) + 1), .int .i64 0] 42)) wr.heap.size l ((D : Int) + 1) 0 := heap_alloc_new wr _
              have hbw : Below wr.heap.size wr (wr.alloc (.cells #[.int .i64 l, .int .i64 ((D : Int) + 1), .int .i64 0] 42)) := (Below.refl _ _).alloc (Nat.le_refl _) _
              have b1 := cell_kept hbw b1
              have b2 := cell_kept hbw b2
              have HB7 : Hid (Below w1.heap.size w1 (wr.alloc (.cells #[.int .i64 l, .int .i64 ((D : Int) + 1), .int .i64 0] 42))) := hbx
              have HX7 : Hid (Box (wr.alloc (.cells #[.int .i64 l, .int .i64 ((D : Int) + 1), .int .i64 0] 42)) wr.heap.size l ((D : Int) + 1) 0) := hxx
              clear hbx hxx hbw
              generalize wr.alloc (.cells #[.int .i64 l, .int .i64 ((D : Int) + 1), .int .i64 0] 42) = w6 at *
              go_quiet (fail)
              have HB8 : Hid (Below w1.heap.size w1 (w6.drewN nq)) := below_drewN HB7.out nq
              have HX8 : Hid (Box (w6.drewN nq) wr.heap.size l ((D : Int) + 1) 0) := HX7.out
              clear HB7 HX7 b1 b2
              generalize w6.drewN nq = w7 at *
              obtain ⟨l0, l1, l2⟩ := HX8.out.cell
              have e0 := above_cell l0
              have e1 := above_cell l1
              have e2 := above_cell l2
              have e3 := above_cell (cell_kept HB8.out HY.out.1)
              have e4 := above_cell (cell_kept HB8.out HY.out.2.1)
              have e5 := above_cell (cell_kept HB8.out HY.out.2.2)
              have e6 := above_cell (cell_kept HB8.out HA0.out)
              have e7 := above_cell (cell_kept HB8.out HA2.out)
              have e8 := above_cell (cell_kept HB8.out HF2.out)
              cases hbb : beforeB ⟨(l : Int), (D : Int) + 1, 0⟩ ⟨tl, td, tb⟩ with
              | false =>
                have HZ : Hid (awIn p i ⟨tl, td, tb⟩ (D + 1) (j + 1) = I0) := by
                  show _ = _
                  rw [HAS.out, HAW2.out, hbb, if_neg (by simp), Nat.add_zero]
                have HBF : Hid (∀ W : World, Calls Tryz.prog 120 #[.agg #[.int .i64 l, .int .i64 ((D : Int) + 1), .int .i64 0], .agg #[.int .i64 tl, .int .i64 td, .int .i64 tb]] W fun r w' => r = .returned (.bool false) ∧ Below W.heap.size W w') := fun W => by
                  have := before_calls l ((D : Int) + 1) 0 tl td tb W
                  rw [hbb] at this
                  exact this
                clear hbb
                go_wp2_with fail
                refine wp_region_above (W := w7) (Below.refl _ _) (by kernel_rfl) (by kernel_rfl) ?_
                repeat (go_big_quiet_step ((go_at_call 120; exact Calls.above_of (HBF.out _))))
                refine wpQuiet_nil ?_
                rintro _ ⟨X, rfl⟩
                have HB9 : Hid (Below w1.heap.size w1 (above w7 X)) := HB8.out.trans ((above_below w7 X).mono HB8.out.size)
                clear e0 e1 e2 e3 e4 e5 e6 e7 e8 l0 l1 l2
                generalize above w7 X = w8 at *
                go_wp2
                go_roundg (65 - (j + 1))
                case measure => have := HG2.out; omega
                case rel => exact ⟨j + 1, by omega, rfl, by rw [← HLI.out]; go_num, by rw [HZ.out], HB9⟩
              | true =>
                have HBF : Hid (∀ W : World, Calls Tryz.prog 120 #[.agg #[.int .i64 l, .int .i64 ((D : Int) + 1), .int .i64 0], .agg #[.int .i64 tl, .int .i64 td, .int .i64 tb]] W fun r w' => r = .returned (.bool true) ∧ Below W.heap.size W w') := fun W => by
                  have := before_calls l ((D : Int) + 1) 0 tl td tb W
                  rw [hbb] at this
                  exact this
                by_cases heq : (1 + N1 + N2) + Tm = T0
                · have HZ : Hid (awIn p i ⟨tl, td, tb⟩ (D + 1) (j + 1) = I0 + Vm) := by
                    show _ = _
                    rw [HAS.out, HAW2.out, hbb, if_pos ⟨rfl, heq⟩]
                  have hq1 : (1 + (N1 : Int) + (N2 : Int) + (Tm : Int) == (T0 : Int)) = true := by simp; omega
                  clear hbb heq
                  go_wp2_with fail
                  refine wp_region_above (W := w7) (Below.refl _ _) (by kernel_rfl) (by kernel_rfl) ?_
                  repeat (go_big_quiet_step ((go_at_call 120; exact Calls.above_of (HBF.out _))))
                  refine wpQuiet_nil ?_
                  rintro _ ⟨X, rfl⟩
                  have HB9 : Hid (Below w1.heap.size w1 (above w7 X)) := HB8.out.trans ((above_below w7 X).mono HB8.out.size)
                  clear e0 e1 e2 e3 e4 e5 e6 e7 e8 l0 l1 l2
                  generalize above w7 X = w8 at *
                  have g1 := cell_kept HB9.out HA1.out
                  have g2 := cell_kept HB9.out HF3.out
                  go_wp2
                  go_roundg (65 - (j + 1))
                  case measure => have := HG2.out; omega
                  case rel => exact ⟨j + 1, by omega, rfl, by rw [← HLI.out]; go_num, by rw [HZ.out]; go_num, HB9⟩
                · have HZ : Hid (awIn p i ⟨tl, td, tb⟩ (D + 1) (j + 1) = I0) := by
                    show _ = _
                    rw [HAS.out, HAW2.out, if_neg (fun h => heq h.2), Nat.add_zero]
                  have hq1 : (1 + (N1 : Int) + (N2 : Int) + (Tm : Int) == (T0 : Int)) = false := by simp; omega
                  clear hbb heq
                  go_wp2_with fail
                  refine wp_region_above (W := w7) (Below.refl _ _) (by kernel_rfl) (by kernel_rfl) ?_
                  repeat (go_big_quiet_step ((go_at_call 120; exact Calls.above_of (HBF.out _))))
                  refine wpQuiet_nil ?_
                  rintro _ ⟨X, rfl⟩
                  have HB9 : Hid (Below w1.heap.size w1 (above w7 X)) := HB8.out.trans ((above_below w7 X).mono HB8.out.size)
                  clear e0 e1 e2 e3 e4 e5 e6 e7 e8 l0 l1 l2
                  generalize above w7 X = w8 at *
                  go_wp2
                  go_roundg (65 - (j + 1))
                  case measure => have := HG2.out; omega
                  case rel => exact ⟨j + 1, by omega, rfl, by rw [← HLI.out]; go_num, by rw [HZ.out], HB9⟩
            · have hjn : j = n - 1 := by omega
              have HZ : Hid (awTo p i ⟨tl, td, tb⟩ (D + 1) = S0 + awIn p i ⟨tl, td, tb⟩ (D + 1) j) := by
                show _ = _
                rw [awTo_succ, HS.out, HA.out, ← hjn]
              have hln' : ¬ (j : Int) + 2 ≤ (n : Int) := by omega
              clear hjn
              generalize awIn p i ⟨tl, td, tb⟩ (D + 1) j = I0 at *
              go_wp2
              go_roundg (33 - (D + 1))
              case measure => have := HG1.out; omega
              case rel => exact ⟨D + 1, by omega, by omega, rfl, by go_num, by rw [HZ.out]; go_num, HB6⟩
        · have HZ : Hid (aheadN p i ⟨tl, td, tb⟩ = awTo p i ⟨tl, td, tb⟩ D) := by
            show _ = _
            rw [aheadN_is, show min 32 i = D by omega]
          generalize hS : awTo p i ⟨tl, td, tb⟩ D = S0 at *
          clear hS
          by_cases h32 : (D : Int) + 1 ≤ 32
          · have hdi : ¬ (D : Int) + 1 ≤ (i : Int) := by omega
            clear hgo
            go_wp2
            go_ret
            exact ⟨HB1.out.trans (HB4.out.mono HB1.out.size), by rw [HZ.out]; rfl⟩
          · clear hgo
            go_wp2
            go_ret
            exact ⟨HB1.out.trans (HB4.out.mono HB1.out.size), by rw [HZ.out]; rfl⟩
    · have HN : Hid (Value.int .i64 0 = .int .i64 ((awTo p i ⟨tl, td, tb⟩ 0 : Nat) : Int)) := by
        show _ = _
        have : awTo p i ⟨tl, td, tb⟩ 0 = 0 := by
          show aw p i ⟨tl, td, tb⟩ (literal p i) + 0 = 0
          rw [HAW.out, if_neg (fun h => heq h.2)]
        rw [this]; rfl
      have hq1 : ((T1 : Int) + 9 == (T0 : Int)) = false := by simp; omega
      clear hbb heq
      refine wp_region_above (W := w2) (Below.refl _ _) (by kernel_rfl) (by kernel_rfl) ?_
      repeat (go_big_quiet_step ((go_at_call 120; exact Calls.above_of (HBF.out _))))
      refine wpQuiet_nil ?_
      rintro _ ⟨X, rfl⟩
      have HB3 : Hid (Below w1.heap.size w1 (above w2 X)) := HB12.out.trans ((above_below w2 X).mono HB12.out.size)
      have g1 := cell_kept (above_below w2 X) d1
      have g2 := cell_kept (above_below w2 X) d4
      clear e0 e1 e2 e3 e4 e5 e6 e7 e8 l0 l1 l2 y0 y1 y2 d0 d1 d2 d3 d4
      generalize above w2 X = w3 at *
      go_wp2_with fail
      clear g1 g2
      go_loopg [9, 12] 33 (fun g nv dv wr => ∃ D : Nat, D ≤ 32 ∧ D ≤ i ∧ g = 33 - D ∧ dv = .int .i64 ((D : Int) + 1) ∧ nv = .int .i64 (awTo p i ⟨tl, td, tb⟩ D) ∧ Hid (Below w1.heap.size w1 wr))
      case atStart => exact ⟨0, by omega, by omega, rfl, rfl, HN.out, HB3⟩
      case round =>
        obtain ⟨D, hD1, hD2, hg1, rfl, rfl, HB4⟩ := hrel
        have HG1 : Hid _ := hg1
        have hle := awTo_le p i ⟨tl, td, tb⟩ hp (by omega) D
        clear hg1
        by_cases hgo : D + 1 ≤ 32 ∧ D + 1 ≤ i
        · have hd1 : (D : Int) + 1 ≤ 32 := by omega
          have hd2 : (D : Int) + 1 ≤ (i : Int) := by omega
          have HCD : Hid ((D : Int) + 1 = ((D + 1 : Nat) : Int)) := by show _ = _; omega
          generalize hS : awTo p i ⟨tl, td, tb⟩ D = S0 at *
          have HS : Hid (awTo p i ⟨tl, td, tb⟩ D = S0) := hS
          clear hS
          go_wp2_with fail
          rw [HCD.out]
          refine (alike_is _ p cap i (D + 1) wr hp (bytesAt_below2 HBY1.out HB4.out) (by omega) (by omega) (by omega)).mono ?_
          rintro e w5 ⟨rfl, nd, rfl⟩
          have HB5 : Hid (Below w1.heap.size w1 (wr.drewN nd)) := below_drewN HB4.out nd
          have hal := (alk_most p i (D + 1) (by omega)).1.1
          generalize wr.drewN nd = w5 at *
          generalize hA : alk p i (D + 1) = n at *
          have HA : Hid (alk p i (D + 1) = n) := hA
          clear hA
          go_wp2_with fail
          go_loopg [9, 14] 65 (fun g nv lv wr => ∃ j : Nat, j ≤ n - 1 ∧ g = 65 - j ∧ lv = .int .i64 ((j : Int) + 2) ∧ nv = .int .i64 ((S0 + awIn p i ⟨tl, td, tb⟩ (D + 1) j : Nat) : Int) ∧ Hid (Below w1.heap.size w1 wr))
          case atStart => exact ⟨0, by omega, rfl, rfl, rfl, HB5⟩
          case round =>
            obtain ⟨j, hj, hg2, rfl, rfl, HB6⟩ := hrel
            have HG2 : Hid _ := hg2
            clear hg2
            have hli := awIn_le p i ⟨tl, td, tb⟩ (D + 1) j
            by_cases hln : j + 2 ≤ n
            · obtain ⟨l, hl2⟩ : ∃ l : Nat, l = j + 2 := ⟨_, rfl⟩
              have HL2 : Hid (l = j + 2) := hl2
              have hlj : l ≤ j + 2 ∧ j + 2 ≤ l := by omega
              have hL : (j : Int) + 2 = (l : Int) := by omega
              rw [hL]
              have HLI : Hid ((j : Int) + 2 = (l : Int)) := hL
              clear hl2 hL
              have hln' : (l : Int) ≤ (n : Int) := by omega
              obtain ⟨m, hm⟩ : ∃ m : Nat, m = i + l := ⟨_, rfl⟩
              have hmi : m ≤ i + l ∧ i + l ≤ m := by omega
              obtain ⟨hC2, hW2⟩ := HR.out.toAt m (by omega)
              obtain ⟨z1, z2, f2, f3, z3, z4⟩ := HK1.out.cells m (by have := HCL.out; omega) (by have := HWL.out; omega)
              rw [hC2] at f2
              rw [hW2] at f3
              have HAS : Hid (awIn p i ⟨tl, td, tb⟩ (D + 1) (j + 1) = awIn p i ⟨tl, td, tb⟩ (D + 1) j + aw p i ⟨tl, td, tb⟩ ⟨(l : Int), (D : Int) + 1, 0⟩) := by
                show _ = _
                rw [awIn_succ, ← HLI.out]
                rfl
              have HAW2 : Hid (aw p i ⟨tl, td, tb⟩ ⟨(l : Int), (D : Int) + 1, 0⟩ = if beforeB ⟨(l : Int), (D : Int) + 1, 0⟩ ⟨tl, td, tb⟩ = true ∧ (1 + Tok.numLen (l - 1) + Tok.numLen (D + 1)) + toC p m = T0 then capW p m else 0) := by
                show _ = _
                unfold aw
                rw [show (Tok.mk (l : Int) ((D : Int) + 1) 0).len.toNat = l from Int.toNat_natCast l, ← hm, HT0.out]
                have := cost_copy (l - 2) (D + 1) (by omega)
                rw [show ((l - 2 : Nat) : Int) + 2 = (l : Int) by omega, show l - 2 + 1 = l - 1 by omega, show ((D + 1 : Nat) : Int) = (D : Int) + 1 by omega] at this
                rw [this]
              have hVm := capW_le p m
              have hTm := toC_le p m (by omega)
              have b1 : wr.cell? ⟨gv, l - 1, none⟩ = some (.int .i64 ((Tok.numLen (l - 1) : Nat) : Int)) := by
                rw [← wid_pos (l - 1) (by omega)]
                exact cell_kept HB6.out (HWC.out (l - 1) (by omega))
              have b2 : wr.cell? ⟨gv, D + 1, none⟩ = some (.int .i64 ((Tok.numLen (D + 1) : Nat) : Int)) := by
                rw [← wid_pos (D + 1) (by omega)]
                exact cell_kept HB6.out (HWC.out (D + 1) (by omega))
              have hn1 := numLen_le (l - 1) (by omega)
              have hn2 := numLen_le (D + 1) (by omega)
              generalize hI0 : awIn p i ⟨tl, td, tb⟩ (D + 1) j = I0 at *
              generalize Tok.numLen (l - 1) = N1 at *
              generalize Tok.numLen (D + 1) = N2 at *
              generalize toC p m = Tm at *
              generalize capW p m = Vm at *
              have hjI : 0 ≤ ((l - 1 : Nat) : Int) ∧ ((l - 1 : Nat) : Int) < 65 := by omega
              have hdI : 0 ≤ (D : Int) + 1 ∧ (D : Int) + 1 < 65 := by omega
              have hwj : IntKind.i64.wrap ((l : Int) - 1) = ((l - 1 : Nat) : Int) := by rw [wrapEq _ (by omega)]; omega
              have hmI : 0 ≤ (m : Int) ∧ (m : Int) < (cs.length : Int) := by have := HCL.out; omega
              have hmI2 : 0 ≤ (m : Int) ∧ (m : Int) < (ws.length : Int) := by have := HWL.out; omega
              have hwm : IntKind.i64.wrap ((i : Int) + (l : Int)) = (m : Int) := by rw [wrapEq _ (by omega)]; omega
              have HF2 : Hid (w1.cell? ⟨gc, m, none⟩ = some (.int .i64 Tm)) := f2
              have HF3 : Hid (w1.cell? ⟨gw, m, none⟩ = some (.int .i64 Vm)) := f3
              clear hC2 hW2 z1 z2 z3 z4 f2 f3 hm
              go_wp2_with fail
              have hbx : Below w1.heap.size w1 (wr.alloc (.cells #[.int .i64 l, .int .i64 ((D : Int) + 1), .int .i64 0] 42)) := HB6.out.alloc HB6.out.size _
              have hxx : Box (wr.alloc (.cells #[.int .i64 l, .int .i64 ((D : Int) + 1), .int .i64 0] 42)) wr.heap.size l ((D : Int) + 1) 0 := heap_alloc_new wr _
              have hbw : Below wr.heap.size wr (wr.alloc (.cells #[.int .i64 l, .int .i64 ((D : Int) + 1), .int .i64 0] 42)) := (Below.refl _ _).alloc (Nat.le_refl _) _
              have b1 := cell_kept hbw b1
              have b2 := cell_kept hbw b2
              have HB7 : Hid (Below w1.heap.size w1 (wr.alloc (.cells #[.int .i64 l, .int .i64 ((D : Int) + 1), .int .i64 0] 42))) := hbx
              have HX7 : Hid (Box (wr.alloc (.cells #[.int .i64 l, .int .i64 ((D : Int) + 1), .int .i64 0] 42)) wr.heap.size l ((D : Int) + 1) 0) := hxx
              clear hbx hxx hbw
              generalize wr.alloc (.cells #[.int .i64 l, .int .i64 ((D : Int) + 1), .int .i64 0] 42) = w6 at *
              go_quiet (fail)
              have HB8 : Hid (Below w1.heap.size w1 (w6.drewN nq)) := below_drewN HB7.out nq
              have HX8 : Hid (Box (w6.drewN nq) wr.heap.size l ((D : Int) + 1) 0) := HX7.out
              clear HB7 HX7 b1 b2
              generalize w6.drewN nq = w7 at *
              obtain ⟨l0, l1, l2⟩ := HX8.out.cell
              have e0 := above_cell l0
              have e1 := above_cell l1
              have e2 := above_cell l2
              have e3 := above_cell (cell_kept HB8.out HY.out.1)
              have e4 := above_cell (cell_kept HB8.out HY.out.2.1)
              have e5 := above_cell (cell_kept HB8.out HY.out.2.2)
              have e6 := above_cell (cell_kept HB8.out HA0.out)
              have e7 := above_cell (cell_kept HB8.out HA2.out)
              have e8 := above_cell (cell_kept HB8.out HF2.out)
              cases hbb : beforeB ⟨(l : Int), (D : Int) + 1, 0⟩ ⟨tl, td, tb⟩ with
              | false =>
                have HZ : Hid (awIn p i ⟨tl, td, tb⟩ (D + 1) (j + 1) = I0) := by
                  show _ = _
                  rw [HAS.out, HAW2.out, hbb, if_neg (by simp), Nat.add_zero]
                have HBF : Hid (∀ W : World, Calls Tryz.prog 120 #[.agg #[.int .i64 l, .int .i64 ((D : Int) + 1), .int .i64 0], .agg #[.int .i64 tl, .int .i64 td, .int .i64 tb]] W fun r w' => r = .returned (.bool false) ∧ Below W.heap.size W w') := fun W => by
                  have := before_calls l ((D : Int) + 1) 0 tl td tb W
                  rw [hbb] at this
                  exact this
                clear hbb
                go_wp2_with fail
                refine wp_region_above (W := w7) (Below.refl _ _) (by kernel_rfl) (by kernel_rfl) ?_
                repeat (go_big_quiet_step ((go_at_call 120; exact Calls.above_of (HBF.out _))))
                refine wpQuiet_nil ?_
                rintro _ ⟨X, rfl⟩
                have HB9 : Hid (Below w1.heap.size w1 (above w7 X)) := HB8.out.trans ((above_below w7 X).mono HB8.out.size)
                clear e0 e1 e2 e3 e4 e5 e6 e7 e8 l0 l1 l2
                generalize above w7 X = w8 at *
                go_wp2
                go_roundg (65 - (j + 1))
                case measure => have := HG2.out; omega
                case rel => exact ⟨j + 1, by omega, rfl, by rw [← HLI.out]; go_num, by rw [HZ.out], HB9⟩
              | true =>
                have HBF : Hid (∀ W : World, Calls Tryz.prog 120 #[.agg #[.int .i64 l, .int .i64 ((D : Int) + 1), .int .i64 0], .agg #[.int .i64 tl, .int .i64 td, .int .i64 tb]] W fun r w' => r = .returned (.bool true) ∧ Below W.heap.size W w') := fun W => by
                  have := before_calls l ((D : Int) + 1) 0 tl td tb W
                  rw [hbb] at this
                  exact this
                by_cases heq : (1 + N1 + N2) + Tm = T0
                · have HZ : Hid (awIn p i ⟨tl, td, tb⟩ (D + 1) (j + 1) = I0 + Vm) := by
                    show _ = _
                    rw [HAS.out, HAW2.out, hbb, if_pos ⟨rfl, heq⟩]
                  have hq1 : (1 + (N1 : Int) + (N2 : Int) + (Tm : Int) == (T0 : Int)) = true := by simp; omega
                  clear hbb heq
                  go_wp2_with fail
                  refine wp_region_above (W := w7) (Below.refl _ _) (by kernel_rfl) (by kernel_rfl) ?_
                  repeat (go_big_quiet_step ((go_at_call 120; exact Calls.above_of (HBF.out _))))
                  refine wpQuiet_nil ?_
                  rintro _ ⟨X, rfl⟩
                  have HB9 : Hid (Below w1.heap.size w1 (above w7 X)) := HB8.out.trans ((above_below w7 X).mono HB8.out.size)
                  clear e0 e1 e2 e3 e4 e5 e6 e7 e8 l0 l1 l2
                  generalize above w7 X = w8 at *
                  have g1 := cell_kept HB9.out HA1.out
                  have g2 := cell_kept HB9.out HF3.out
                  go_wp2
                  go_roundg (65 - (j + 1))
                  case measure => have := HG2.out; omega
                  case rel => exact ⟨j + 1, by omega, rfl, by rw [← HLI.out]; go_num, by rw [HZ.out]; go_num, HB9⟩
                · have HZ : Hid (awIn p i ⟨tl, td, tb⟩ (D + 1) (j + 1) = I0) := by
                    show _ = _
                    rw [HAS.out, HAW2.out, if_neg (fun h => heq h.2), Nat.add_zero]
                  have hq1 : (1 + (N1 : Int) + (N2 : Int) + (Tm : Int) == (T0 : Int)) = false := by simp; omega
                  clear hbb heq
                  go_wp2_with fail
                  refine wp_region_above (W := w7) (Below.refl _ _) (by kernel_rfl) (by kernel_rfl) ?_
                  repeat (go_big_quiet_step ((go_at_call 120; exact Calls.above_of (HBF.out _))))
                  refine wpQuiet_nil ?_
                  rintro _ ⟨X, rfl⟩
                  have HB9 : Hid (Below w1.heap.size w1 (above w7 X)) := HB8.out.trans ((above_below w7 X).mono HB8.out.size)
                  clear e0 e1 e2 e3 e4 e5 e6 e7 e8 l0 l1 l2
                  generalize above w7 X = w8 at *
                  go_wp2
                  go_roundg (65 - (j + 1))
                  case measure => have := HG2.out; omega
                  case rel => exact ⟨j + 1, by omega, rfl, by rw [← HLI.out]; go_num, by rw [HZ.out], HB9⟩
            · have hjn : j = n - 1 := by omega
              have HZ : Hid (awTo p i ⟨tl, td, tb⟩ (D + 1) = S0 + awIn p i ⟨tl, td, tb⟩ (D + 1) j) := by
                show _ = _
                rw [awTo_succ, HS.out, HA.out, ← hjn]
              have hln' : ¬ (j : Int) + 2 ≤ (n : Int) := by omega
              clear hjn
              generalize awIn p i ⟨tl, td, tb⟩ (D + 1) j = I0 at *
              go_wp2
              go_roundg (33 - (D + 1))
              case measure => have := HG1.out; omega
              case rel => exact ⟨D + 1, by omega, by omega, rfl, by go_num, by rw [HZ.out]; go_num, HB6⟩
        · have HZ : Hid (aheadN p i ⟨tl, td, tb⟩ = awTo p i ⟨tl, td, tb⟩ D) := by
            show _ = _
            rw [aheadN_is, show min 32 i = D by omega]
          generalize hS : awTo p i ⟨tl, td, tb⟩ D = S0 at *
          clear hS
          by_cases h32 : (D : Int) + 1 ≤ 32
          · have hdi : ¬ (D : Int) + 1 ≤ (i : Int) := by omega
            clear hgo
            go_wp2
            go_ret
            exact ⟨HB1.out.trans (HB4.out.mono HB1.out.size), by rw [HZ.out]; rfl⟩
          · clear hgo
            go_wp2
            go_ret
            exact ⟨HB1.out.trans (HB4.out.mono HB1.out.size), by rw [HZ.out]; rfl⟩
end Go.Proofs.YtnpnaglgllcpfaaGreat
