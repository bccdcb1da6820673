/-
  Lemmas for the law All: Frm, Lst, Tto, Cst, Bt.
-/
import Derived.Test.YtnpnaglgllcpfaaGreatM16
import Derived.Test.YtnpnaglgllcpfaaGreatM22
import Derived.WalkSpells
import Derived.StillTailTactics
import Derived.Test.YtnpnaglgllcpfaaGreatM11
import Derived.Laws.IdiomStrings
import Derived.Test.YtnpnaglgllcpfaaGreatM13
import Derived.Laws.BytesArg
/- The document's table from a piece's beginning on: pressref.From. -/
namespace Go.Proofs.YtnpnaglgllcpfaaGreat
set_option maxRecDepth 100000
open Go.RowKit
open Dp

theorem row_two {w w' : World} {B n z g h : Nat} {e : TypeId} {v : Value} {xs : List Value} (ho : w.ownsRow B e z v n xs) (hk : TwoKept w w' g h) (hg : g < B) (hh : h < B) : w'.ownsRow B e z v n xs := by
  refine ⟨ho.1, ?_⟩
  rcases ho.2 with h' | ⟨b, cap, cur, h1, h2, hb, r⟩
  · exact .inl h'
  · refine .inr ⟨b, cap, cur, h1, h2, ?_, r⟩
    rw [hk.heap b (Array.getElem?_eq_some_iff.1 hb).1 (by omega) (by omega)]
    exact hb
theorem bytes_two {w w' : World} {a : Option Addr} {l : List UInt8} {g h : Nat} (hb : BytesAt w a l) (hk : TwoKept w w' g h) (hne : 0 < l.length → ∀ b off, a = some ⟨b, off, none⟩ → b ≠ g ∧ b ≠ h) : BytesAt w' a l := by
  rcases hb with h1 | ⟨b, off, h1, h2⟩
  · exact .inl h1
  · rcases Nat.eq_zero_or_pos l.length with h0 | h0
    · exact .inl (List.eq_nil_of_length_eq_zero h0)
    · have hn := hne h0 b off h1
      have hlt : b < w.heap.size := World.block_lt_of_cell? w _ (h2 0 h0)
      refine .inr ⟨b, off, h1, fun i hi => ?_⟩
      rw [World.cell?_of_block (a := ⟨b, off + i, none⟩) (hk.heap b hlt hn.1 hn.2)]
      exact h2 i hi
/-- A width of the table. -/
theorem WidAt.at {w : World} {B n : Nat} {v : Value} (h : WidAt w B v n) (hn : 0 < n) : ∃ g cap, v = .slice (some ⟨g, 0, none⟩) n cap ∧ ∀ j, j < n → w.cell? ⟨g, j, none⟩ = some (.int .i64 (wid j)) := by
  have h' := h
  rcases h.2 with ⟨_, h0⟩ | ⟨g, cap, cur, rfl, _⟩
  · omega
  · refine ⟨g, cap, rfl, fun j hj => ?_⟩
    have := World.ownsRow.cells h' (g := g) rfl j (.int .i64 (wid j)) (by simp [wids, hj])
    have hadd : (⟨g, 0, none⟩ : Addr).add j = ⟨g, j, none⟩ := by unfold Addr.add; split <;> simp_all
    rwa [hadd] at this
theorem wid_pos (j : Nat) (h : 1 ≤ j) : wid j = ((Tok.numLen j : Nat) : Int) := by unfold wid; rw [if_neg (by omega)]
/-- A step more from a place. -/
theorem Rep.step {n : Nat} {cs ws : List Int} {A : Tab} {i l c : Nat} {es : List (Nat × Nat)} {a u : Nat} (h : Rep n cs ws (push (A i) i es A)) (hx : A i = some (a, u)) (hl : i + l ≤ n) (hb : a + c < 1073741824) :
    Rep n (meetC cs (i + l) ((a + c : Nat) : Int)) (meetW cs ws (i + l) ((a + c : Nat) : Int) (cap9 u)) (push (A i) i (es ++ [(l, c)]) A) := by
  have := h.meet (i + l) hl (a + c) u hb
  rw [push_append]
  show Rep n _ _ (upd _ (i + l) (sh c (A i)))
  rw [hx]
  rw [hx] at this
  exact this
theorem Rep.here {n : Nat} {cs ws : List Int} {A : Tab} {i : Nat} {es : List (Nat × Nat)} {a u : Nat} (h : Rep n cs ws (push (A i) i es A)) (hx : A i = some (a, u)) (hi : i ≤ n) (he : ∀ e ∈ es, 1 ≤ e.1) : cs.getD i 0 = (a : Int) ∧ ws.getD i 0 = cap9 (u : Int) := by
  have := h.at' i hi
  rw [push_low (A i) i i es A (fun e h => by have := he e h; omega), hx] at this
  exact this
theorem stepsD_pos (d k : Nat) : ∀ e ∈ stepsD d k, 1 ≤ e.1 := by
  intro e he
  obtain ⟨l, _, rfl⟩ := List.mem_map.1 he
  show 1 ≤ l + 2
  omega
theorem stepsTo_pos (p : List UInt8) (i D : Nat) : ∀ e ∈ stepsTo p i D, 1 ≤ e.1 := by
  intro e he
  obtain ⟨d, _, h⟩ := List.mem_flatMap.1 he
  exact stepsD_pos _ _ e h
set_option maxHeartbeats 2000000 in
theorem from_calls (a : Option Addr) (p : List UInt8) (cap : Nat) (w : World) (hp : p.length ≤ 64) (hb : BytesAt w a p) :
    Calls Tryz.prog 86 #[.slice a p.length cap] w fun e w' => Below w.heap.size w w' ∧ ∃ q gc gw cc cw cs ws, e = .returned (.pointer (some ⟨q, 0, none⟩)) ∧ KnownAt w' q gc gw cc cw cs ws ∧ Rep p.length cs ws ((net p).from p.length) := by
  have HB : Hid (BytesAt w a p) := hb
  clear hb
  go_enter Tryz.func86, Tryz.ntmps86
  go_wp2_with fail
  refine (blank_calls p.length 0 w hp (by omega)).mono ?_
  rintro e w1 ⟨hb1, q, gc, gw, cc, cw, hq, hgc, hgw, rfl, hk1⟩
  have HB1 : Hid (Below w.heap.size w w1) := hb1
  have HK1 : Hid (KnownAt w1 q gc gw cc cw _ _) := hk1
  have hgc1 : gc < w1.heap.size := (Array.getElem?_eq_some_iff.1 hk1.costs).1
  have hgw1 : gw < w1.heap.size := (Array.getElem?_eq_some_iff.1 hk1.ways).1
  have hs1 := hb1.size
  clear hb1 hk1
  go_wp2_with fail
  refine (widths_calls w1).mono ?_
  rintro e w2 ⟨hb2, v, rfl, hw2⟩
  have HW2 : Hid (WidAt w2 w1.heap.size v 65) := hw2
  have HK2 : Hid (KnownAt w2 q gc gw cc cw ((List.replicate (p.length + 1) 1073741824).set 0 0) ((List.replicate (p.length + 1) 0).set 0 1)) := KnownAt.below HK1.out hb2
  have HB2 : Hid (Below w.heap.size w w2) := HB1.out.trans (hb2.mono (by omega))
  have hs2 := hb2.size
  clear hb2 hw2 HK1
  obtain ⟨gv, vc, rfl, hwc⟩ := HW2.out.at (by omega)
  have HWC : Hid _ := hwc
  have HBY : Hid (BytesAt w2 a p) := bytesAt_below2 HB.out HB2.out
  have HNE : Hid (0 < p.length → ∀ b off, a = some ⟨b, off, none⟩ → b ≠ gc ∧ b ≠ gw) := by
    intro h0 b off ha
    rcases HB.out with h1 | ⟨b', off', h1, h2⟩
    · rw [h1] at h0; simp at h0
    · rw [ha] at h1
      simp at h1
      have hlt : b' < w.heap.size := World.block_lt_of_cell? w _ (h2 0 h0)
      omega
  clear hwc
  go_wp2_with fail
  go_loopg [5] p.length (fun g iv wr => ∃ (i : Nat) (cs ws : List Int), i ≤ p.length ∧ g = p.length - i ∧ iv = .int .i64 i ∧ Hid (KnownAt wr q gc gw cc cw cs ws) ∧ Hid (Rep p.length cs ws ((net p).from i)) ∧ Hid (TwoKept w2 wr gc gw))
  case atStart => exact ⟨0, _, _, by omega, rfl, rfl, HK2, Rep.blank p.length 0 (by omega), TwoKept.refl _ _ _⟩
  case round =>
    obtain ⟨i, cs, ws, hi, hg, rfl, hkn, hrep, htk⟩ := hrel
    have HG : Hid (gk = p.length - i) := hg
    clear hg
    by_cases hlt : i < p.length
    · obtain ⟨xa, xu, hx, hxa⟩ := from_some p i hi
      have HX : Hid ((net p).from i i = some (xa, xu)) := hx
      have HR0 : Hid (Rep p.length cs ws (push ((net p).from i i) i [] ((net p).from i))) := hrep.out
      have hcl := hrep.out.lc
      have hwl := hrep.out.lw
      obtain ⟨hci, hwi⟩ := HR0.out.here hx hi (fun e he => by cases he)
      have K1 := hkn.out.cells i (by omega) (by omega)
      obtain ⟨a0, a1, a2, a3, a4, a5⟩ := K1
      rw [hci] at a2
      rw [hwi] at a3
      have hcap := cap9_range xu
      generalize hU : cap9 (xu : Int) = U at *
      have HU : Hid (cap9 (xu : Int) = U) := hU
      have hkI : 0 ≤ (i : Int) ∧ (i : Int) < (cs.length : Int) := by omega
      have hkI2 : 0 ≤ (i : Int) ∧ (i : Int) < (ws.length : Int) := by omega
      have hw1 := (hrep.out.at' (i + 1) (by omega)).ways
      have HC1 : Hid ((i : Int) + 1 = ((i + 1 : Nat) : Int)) := by show _ = _; omega
      have HC2 : Hid ((xa : Int) + 9 = ((xa + 9 : Nat) : Int)) := by show _ = _; omega
      have HM : Hid (Calls Tryz.prog 106 #[.pointer (some ⟨q, 0, none⟩), .int .i64 ((i : Int) + 1), .int .i64 ((xa : Int) + 9), .int .i64 U] wr.drew fun e w' => e = .returned (.tuple #[]) ∧ KnownAt w' q gc gw cc cw (meetC cs (i + 1) ((xa + 9 : Nat) : Int)) (meetW cs ws (i + 1) ((xa + 9 : Nat) : Int) U) ∧ TwoKept wr.drew w' gc gw) := by
        show Calls _ _ _ _ _
        rw [HC1.out, HC2.out]
        exact meet_calls q gc gw cc cw cs ws (i + 1) ((xa + 9 : Nat) : Int) U wr.drew hkn.out.drew (by omega) (by omega) (by omega) hcap hw1
      have HR1 : Hid (Rep p.length (meetC cs (i + 1) ((xa + 9 : Nat) : Int)) (meetW cs ws (i + 1) ((xa + 9 : Nat) : Int) U) (push ((net p).from i i) i ([] ++ [(1, 9)]) ((net p).from i))) := by
        have := HR0.out.step (l := 1) (c := 9) hx (by omega) (by omega)
        rw [hU] at this
        exact this
      have HCL : Hid (cs.length = p.length + 1) := hcl
      have HWL : Hid (ws.length = p.length + 1) := hwl
      clear hx hci hwi hU hw1 hcl hwl
      go_wp2_with fail
      go_still_tail 18, (by kernel_rfl)
      rw [show ({ heap := wr.heap, tape := wr.tape, drawn := wr.drawn + 1, os := wr.os, output := wr.output } : World) = wr.drew from rfl]
      go_wp2_with fail
      refine (Calls.mono HM.out ?_)
      rintro e w3 ⟨rfl, hk3, ht3⟩
      have HK3 : Hid (KnownAt w3 q gc gw cc cw (meetC cs (i + 1) ((xa + 9 : Nat) : Int)) (meetW cs ws (i + 1) ((xa + 9 : Nat) : Int) U)) := hk3
      have HT3 : Hid (TwoKept w2 w3 gc gw) := htk.out.drew.trans ht3
      clear HM a0 a1 a2 a3 a4 a5 hkI hkI2 hk3 ht3 hkn hrep htk HR0
      go_wp2_with fail
      go_loopg [6] 33 (fun g dv wd => ∃ (D : Nat) (cs ws : List Int), D ≤ 32 ∧ D ≤ i ∧ g = 33 - D ∧ dv = .int .i64 ((D : Int) + 1) ∧ Hid (KnownAt wd q gc gw cc cw cs ws) ∧ Hid (Rep p.length cs ws (push ((net p).from i i) i ((1, 9) :: stepsTo p i D) ((net p).from i))) ∧ Hid (TwoKept w2 wd gc gw))
      case atStart => exact ⟨0, _, _, by omega, by omega, rfl, rfl, HK3, HR1, HT3⟩
      case round =>
        clear HK3 HR1 HT3
        obtain ⟨D, cs1, ws1, hD1, hD2, hg1, rfl, HK3, HR1, HT3⟩ := hrel
        have HG1 : Hid _ := hg1
        clear hg1
        by_cases hgo : D + 1 ≤ 32 ∧ D + 1 ≤ i
        · have hd1 : (D : Int) + 1 ≤ 32 := by omega
          have hd2 : (D : Int) + 1 ≤ (i : Int) := by omega
          have hd1' : ¬ 32 < (D : Int) + 1 := by omega
          have hd2' : ¬ (i : Int) < (D : Int) + 1 := by omega
          have HCD : Hid ((D : Int) + 1 = ((D + 1 : Nat) : Int)) := by show _ = _; omega
          go_wp2_with fail
          rw [HCD.out]
          refine (alike_is a p cap i (D + 1) wr hp (bytes_two HBY.out HT3.out HNE.out) hi (by omega) (by omega)).mono ?_
          rintro e w4 ⟨rfl, nd, rfl⟩
          have HK4 : Hid (KnownAt (wr.drewN nd) q gc gw cc cw cs1 ws1) := HK3.out.drewN nd
          have HT4 : Hid (TwoKept w2 (wr.drewN nd) gc gw) := HT3.out.drewN nd
          have hal := (alk_most p i (D + 1) hi).1.1
          generalize wr.drewN nd = w4 at *
          generalize hA : alk p i (D + 1) = n at *
          have HA : Hid (alk p i (D + 1) = n) := hA
          clear hA HK3 HT3
          go_wp2_with fail
          go_loopg [8] 65 (fun g lv wl => ∃ (j : Nat) (cs ws : List Int), j ≤ n - 1 ∧ g = 65 - j ∧ lv = .int .i64 ((j : Int) + 2) ∧ Hid (KnownAt wl q gc gw cc cw cs ws) ∧ Hid (Rep p.length cs ws (push ((net p).from i i) i (((1, 9) :: stepsTo p i D) ++ stepsD (D + 1) j) ((net p).from i))) ∧ Hid (TwoKept w2 wl gc gw))
          case atStart => exact ⟨0, cs1, ws1, by omega, rfl, rfl, HK4, by show Rep _ _ _ _; rw [show stepsD (D + 1) 0 = [] from rfl, List.append_nil]; exact HR1.out, HT4⟩
          case round =>
            clear HK4 HR1 HT4
            obtain ⟨j, cs2, ws2, hj, hg2, rfl, HK5, HR5, HT5⟩ := hrel
            have HG2 : Hid _ := hg2
            clear hg2
            by_cases hln : j + 2 ≤ n
            · have hln' : (j : Int) + 2 ≤ (n : Int) := by omega
              have hcl := HR5.out.lc
              have hwl := HR5.out.lw
              obtain ⟨hci, hwi⟩ := HR5.out.here HX.out hi (fun e he => by
                rcases List.mem_append.1 he with h | h
                · rcases List.mem_cons.1 h with rfl | h
                  · decide
                  · exact stepsTo_pos p i D e h
                · exact stepsD_pos _ _ e h)
              obtain ⟨a0, a1, a2, a3, a4, a5⟩ := HK5.out.cells i (by omega) (by omega)
              rw [hci] at a2
              rw [hwi, HU.out] at a3
              have hgv : w1.heap.size ≤ gv ∧ gv < w2.heap.size := World.ownsRow.lt HW2.out gv rfl
              have b1 : wr.cell? ⟨gv, j + 1, none⟩ = some (.int .i64 ((Tok.numLen (j + 1) : Nat) : Int)) := by
                rw [World.cell?_of_block (a := ⟨gv, j + 1, none⟩) (HT5.out.heap gv hgv.2 (by omega) (by omega)), ← wid_pos (j + 1) (by omega)]
                exact HWC.out (j + 1) (by omega)
              have b2 : wr.cell? ⟨gv, D + 1, none⟩ = some (.int .i64 ((Tok.numLen (D + 1) : Nat) : Int)) := by
                rw [World.cell?_of_block (a := ⟨gv, D + 1, none⟩) (HT5.out.heap gv hgv.2 (by omega) (by omega)), ← wid_pos (D + 1) (by omega)]
                exact HWC.out (D + 1) (by omega)
              have hn1 := numLen_le (j + 1) (by omega)
              have hn2 := numLen_le (D + 1) (by omega)
              have HSD : Hid (((1, 9) :: stepsTo p i D) ++ stepsD (D + 1) (j + 1) = (((1, 9) :: stepsTo p i D) ++ stepsD (D + 1) j) ++ [(j + 2, 1 + Tok.numLen (j + 1) + Tok.numLen (D + 1))]) := by show _ = _; rw [stepsD_succ, List.append_assoc]
              have hw1 := (HR5.out.at' (i + (j + 2)) (by omega)).ways
              have HR6 : Hid (Rep p.length (meetC cs2 (i + (j + 2)) ((xa + (1 + Tok.numLen (j + 1) + Tok.numLen (D + 1)) : Nat) : Int)) (meetW cs2 ws2 (i + (j + 2)) ((xa + (1 + Tok.numLen (j + 1) + Tok.numLen (D + 1)) : Nat) : Int) U) (push ((net p).from i i) i (((1, 9) :: stepsTo p i D) ++ stepsD (D + 1) (j + 1)) ((net p).from i))) := by
                have := HR5.out.step (l := j + 2) (c := 1 + Tok.numLen (j + 1) + Tok.numLen (D + 1)) HX.out (by omega) (by omega)
                rw [HU.out] at this
                show Rep _ _ _ _
                rw [HSD.out]
                exact this
              have hkI : 0 ≤ (i : Int) ∧ (i : Int) < (cs2.length : Int) := by omega
              have hkI2 : 0 ≤ (i : Int) ∧ (i : Int) < (ws2.length : Int) := by omega
              have hwj : IntKind.i64.wrap ((j : Int) + 2 - 1) = (j : Int) + 1 := by rw [wrapEq _ (by omega)]; omega
              have hjI : 0 ≤ (j : Int) + 1 ∧ (j : Int) + 1 < 65 := by omega
              have hdI : 0 ≤ (D : Int) + 1 ∧ (D : Int) + 1 < 65 := by omega
              generalize hn3 : Tok.numLen (j + 1) = N1 at *
              generalize hn4 : Tok.numLen (D + 1) = N2 at *
              have HC1 : Hid ((i : Int) + ((j : Int) + 2) = ((i + (j + 2) : Nat) : Int)) := by show _ = _; omega
              have HC2 : Hid ((xa : Int) + 1 + (N1 : Int) + (N2 : Int) = ((xa + (1 + N1 + N2) : Nat) : Int)) := by show _ = _; omega
              have HM : Hid (Calls Tryz.prog 106 #[.pointer (some ⟨q, 0, none⟩), .int .i64 ((i : Int) + ((j : Int) + 2)), .int .i64 ((xa : Int) + 1 + (N1 : Int) + (N2 : Int)), .int .i64 U] wr.drew fun e w' => e = .returned (.tuple #[]) ∧ KnownAt w' q gc gw cc cw (meetC cs2 (i + (j + 2)) ((xa + (1 + N1 + N2) : Nat) : Int)) (meetW cs2 ws2 (i + (j + 2)) ((xa + (1 + N1 + N2) : Nat) : Int) U) ∧ TwoKept wr.drew w' gc gw) := by
                show Calls _ _ _ _ _
                rw [HC1.out, HC2.out]
                exact meet_calls q gc gw cc cw cs2 ws2 (i + (j + 2)) ((xa + (1 + N1 + N2) : Nat) : Int) U wr.drew HK5.out.drew (by omega) (by omega) (by omega) hcap hw1
              clear hci hwi hcl hwl hw1 hgv
              go_wp2_with fail
              go_still_tail 30, (by kernel_rfl)
              rw [show ({ heap := wr.heap, tape := wr.tape, drawn := wr.drawn + 1, os := wr.os, output := wr.output } : World) = wr.drew from rfl]
              go_wp2_with fail
              refine (Calls.mono HM.out ?_)
              rintro e w6 ⟨rfl, hk6, ht6⟩
              have HK6 : Hid (KnownAt w6 q gc gw cc cw (meetC cs2 (i + (j + 2)) ((xa + (1 + N1 + N2) : Nat) : Int)) (meetW cs2 ws2 (i + (j + 2)) ((xa + (1 + N1 + N2) : Nat) : Int) U)) := hk6
              have HT6 : Hid (TwoKept w2 w6 gc gw) := HT5.out.drew.trans ht6
              clear HM a0 a1 a2 a3 a4 a5 b1 b2 hkI hkI2 hjI hdI hwj hk6 ht6
              go_wp2
              go_roundg (65 - (j + 1))
              case measure => have := HG2.out; omega
              case rel => exact ⟨j + 1, _, _, by omega, rfl, by go_num, HK6, HR6, HT6⟩
            · have hjn : j = n - 1 := by omega
              have HR6 : Hid (Rep p.length cs2 ws2 (push ((net p).from i i) i ((1, 9) :: stepsTo p i (D + 1)) ((net p).from i))) := by
                have := HR5.out
                rw [hjn, ← HA.out] at this
                show Rep _ _ _ _
                rw [stepsTo_succ, ← List.cons_append]
                exact this
              have hln' : ¬ (j : Int) + 2 ≤ (n : Int) := by omega
              go_wp2
              go_roundg (33 - (D + 1))
              case measure => have := HG1.out; omega
              case rel => exact ⟨D + 1, cs2, ws2, by omega, by omega, rfl, by go_num, HK5, HR6, HT5⟩
        · have HR6 : Hid (Rep p.length cs1 ws1 ((net p).from (i + 1))) := by
            have := HR1.out
            rw [show D = min 32 i by omega, ← net_steps] at this
            exact this
          by_cases h32 : (D : Int) + 1 ≤ 32
          · have hdi : ¬ (D : Int) + 1 ≤ (i : Int) := by omega
            clear hgo
            go_wp2
            go_roundg (p.length - (i + 1))
            case measure => have := HG.out; omega
            case rel => exact ⟨i + 1, cs1, ws1, by omega, rfl, by go_num, HK3, HR6, HT3⟩
          · clear hgo
            go_wp2
            go_roundg (p.length - (i + 1))
            case measure => have := HG.out; omega
            case rel => exact ⟨i + 1, cs1, ws1, by omega, rfl, by go_num, HK3, HR6, HT3⟩
    · have hie : i = p.length := by omega
      subst hie
      go_wp2
      go_ret
      exact ⟨⟨htk.out.os.trans HB2.out.os, htk.out.tape.trans HB2.out.tape, htk.out.output.trans HB2.out.output, Nat.le_trans HB2.out.size htk.out.size, fun k hk => (htk.out.heap k (by omega) (by omega) (by omega)).trans (HB2.out.block k hk)⟩, q, gc, gw, cc, cw, cs, ws, rfl, hkn.out, hrep.out⟩
end Go.Proofs.YtnpnaglgllcpfaaGreat

/- The document's least cost of a piece, and how many lists have it: pressref.Least. -/
namespace Go.Proofs.YtnpnaglgllcpfaaGreat
set_option maxRecDepth 100000
open Go.RowKit
open Dp

set_option maxHeartbeats 1000000 in
theorem least_calls (a : Option Addr) (p : List UInt8) (cap : Nat) (w : World) (hp : p.length ≤ 64) (hb : BytesAt w a p) :
    Calls Tryz.prog 55 #[.slice a p.length cap] w fun e w' => Below w.heap.size w w' ∧ e = .returned (.tuple #[.int .i64 (leastC p), .int .i64 (cap9 (leastW p))]) := by
  have HB : Hid (BytesAt w a p) := hb
  clear hb
  go_enter Tryz.func55, Tryz.ntmps55
  go_wp2_with fail
  refine (from_calls a p cap w hp HB.out).mono ?_
  rintro e w1 ⟨hb1, q, gc, gw, cc, cw, cs, ws, rfl, hk, hr⟩
  have HB1 : Hid (Below w.heap.size w w1) := hb1
  have hcl := hr.lc
  have hwl := hr.lw
  have hat := hr.at' p.length (Nat.le_refl _)
  rw [show (net p).from p.length p.length = (net p).to 0 from (net p).from_to, least_is] at hat
  obtain ⟨h1, h2⟩ := hat
  obtain ⟨a0, a1, a2, a3, _, _⟩ := hk.cells p.length (by omega) (by omega)
  rw [h1] at a2
  rw [h2] at a3
  have hi1 : 0 ≤ (p.length : Int) ∧ (p.length : Int) < (cs.length : Int) := by omega
  have hi2 : 0 ≤ (p.length : Int) ∧ (p.length : Int) < (ws.length : Int) := by omega
  generalize hU : cap9 (leastW p : Int) = U at *
  generalize hC : leastC p = C at *
  have HU : Hid (cap9 (leastW p : Int) = U) := hU
  have HC : Hid (leastC p = C) := hC
  clear hU hC
  have HCL : Hid _ := hcl
  have HWL : Hid _ := hwl
  clear hb1 hk hr h1 h2 hcl hwl
  go_wp2_with fail
  go_quiet (fail)
  go_wp2
  go_ret2
  exact ⟨below_drewN HB1.out _, by rw [HU.out, HC.out]; rfl⟩
end Go.Proofs.YtnpnaglgllcpfaaGreat

/- The document's table to a piece's end: pressref.To. -/
namespace Go.Proofs.YtnpnaglgllcpfaaGreat
set_option maxRecDepth 100000
open Go.RowKit
open Dp

/-- The places from k on are known. -/
def known (p : List UInt8) (k : Nat) : Tab := fun j => if k ≤ j then (net p).to j else none
/-- So many steps from a place have been met there. -/
def pull (p : List UInt8) (i : Nat) : List (Nat × Nat) → Tab → Tab
  | [], A => A
  | e :: es, A => pull p i es (upd A i (sh e.2 ((net p).to (i + e.1))))
theorem pull_append (p : List UInt8) (i : Nat) : ∀ (a b : List (Nat × Nat)) (A : Tab), pull p i (a ++ b) A = pull p i b (pull p i a A)
  | [], b, A => rfl
  | e :: a, b, A => by simp only [List.cons_append, pull, pull_append p i a b]
theorem pull_other (p : List UInt8) (i j : Nat) (h : j ≠ i) : ∀ (es : List (Nat × Nat)) (A : Tab), pull p i es A j = A j
  | [], A => rfl
  | e :: es, A => by
    rw [pull, pull_other p i j h es]
    exact if_neg h
theorem pull_at (p : List UInt8) (i : Nat) : ∀ (es : List (Nat × Nat)) (A : Tab), pull p i es A i = add (A i) (sum (es.map fun e => sh e.2 ((net p).to (i + e.1))))
  | [], A => (add_none _).symm
  | e :: es, A => by
    rw [pull, pull_at p i es, List.map_cons]
    simp only [sum]
    rw [show upd A i (sh e.2 ((net p).to (i + e.1))) i = add (A i) (sh e.2 ((net p).to (i + e.1))) from if_pos rfl, add_assoc]
theorem Rep.congr {n : Nat} {cs ws : List Int} {A B : Tab} (h : Rep n cs ws A) (hAB : ∀ j, j ≤ n → A j = B j) : Rep n cs ws B :=
  ⟨h.lc, h.lw, fun j hj => by rw [← hAB j hj]; exact h.at' j hj⟩
theorem pull_all (p : List UInt8) (i : Nat) (hi : i < p.length) (j : Nat) : pull p i ((net p).E i) (known p (i + 1)) j = known p i j := by
  by_cases hj : j = i
  · subst hj
    rw [pull_at, show known p (j + 1) j = none from if_neg (by omega), none_add, ← (net p).to_step j hi]
    exact (if_pos (Nat.le_refl _)).symm
  · rw [pull_other p i j hj]
    unfold known
    by_cases h : i + 1 ≤ j
    · rw [if_pos h, if_pos (by omega)]
    · rw [if_neg h, if_neg (by omega)]
theorem known_end (p : List UInt8) (j : Nat) (hj : j ≤ p.length) : (if j = p.length then one else none : S) = known p p.length j := by
  unfold known
  by_cases h : j = p.length
  · rw [if_pos h, if_pos (by omega), h]; exact (net p).to_end.symm
  · rw [if_neg h, if_neg (by omega)]
/-- What stands at a place that is known. -/
theorem Rep.there {p : List UInt8} {cs ws : List Int} {i l : Nat} {es : List (Nat × Nat)} (h : Rep p.length cs ws (pull p i es (known p (i + 1)))) (hl : 1 ≤ l) (hn : i + l ≤ p.length) :
    ∃ a u, (net p).to (i + l) = some (a, u) ∧ a ≤ 9 * p.length ∧ cs.getD (i + l) 0 = (a : Int) ∧ ws.getD (i + l) 0 = cap9 (u : Int) := by
  obtain ⟨m, u, h1, h2, _⟩ := to_some p (i + l) hn
  have := h.at' (i + l) hn
  rw [pull_other p i (i + l) (by omega), show known p (i + 1) (i + l) = (net p).to (i + l) from if_pos (by omega), h1] at this
  exact ⟨m, u, h1, by omega, this.1, this.2⟩
/-- A step more at a place. -/
theorem Rep.pulled {p : List UInt8} {cs ws : List Int} {i l c : Nat} {es : List (Nat × Nat)} {a u : Nat} (h : Rep p.length cs ws (pull p i es (known p (i + 1)))) (hx : (net p).to (i + l) = some (a, u)) (hi : i ≤ p.length) (hb : a + c < 1073741824) :
    Rep p.length (meetC cs i ((a + c : Nat) : Int)) (meetW cs ws i ((a + c : Nat) : Int) (cap9 u)) (pull p i (es ++ [(l, c)]) (known p (i + 1))) := by
  have := h.meet i hi (a + c) u hb
  rw [pull_append]
  show Rep p.length _ _ (upd _ i (sh c ((net p).to (i + l))))
  rw [hx]
  exact this

set_option maxHeartbeats 2000000 in
theorem to_calls (a : Option Addr) (p : List UInt8) (cap : Nat) (w : World) (hp : p.length ≤ 64) (hb : BytesAt w a p) :
    Calls Tryz.prog 109 #[.slice a p.length cap] w fun e w' => Below w.heap.size w w' ∧ ∃ q gc gw cc cw cs ws, w.heap.size ≤ q ∧ w.heap.size ≤ gc ∧ w.heap.size ≤ gw ∧ e = .returned (.pointer (some ⟨q, 0, none⟩)) ∧ KnownAt w' q gc gw cc cw cs ws ∧ Rep p.length cs ws (fun j => (net p).to j) := by
  have HB : Hid (BytesAt w a p) := hb
  clear hb
  go_enter Tryz.func109, Tryz.ntmps109
  go_wp2_with fail
  refine (blank_calls p.length p.length w hp (by omega)).mono ?_
  rintro e w1 ⟨hb1, q, gc, gw, cc, cw, hq, hgc, hgw, rfl, hk1⟩
  have HB1 : Hid (Below w.heap.size w w1) := hb1
  have HK1 : Hid (KnownAt w1 q gc gw cc cw _ _) := hk1
  have hgc1 : gc < w1.heap.size := (Array.getElem?_eq_some_iff.1 hk1.costs).1
  have hgw1 : gw < w1.heap.size := (Array.getElem?_eq_some_iff.1 hk1.ways).1
  have hs1 := hb1.size
  clear hb1 hk1
  go_wp2_with fail
  refine (widths_calls w1).mono ?_
  rintro e w2 ⟨hb2, v, rfl, hw2⟩
  have HW2 : Hid (WidAt w2 w1.heap.size v 65) := hw2
  have HK2 : Hid (KnownAt w2 q gc gw cc cw ((List.replicate (p.length + 1) 1073741824).set p.length 0) ((List.replicate (p.length + 1) 0).set p.length 1)) := KnownAt.below HK1.out hb2
  have HB2 : Hid (Below w.heap.size w w2) := HB1.out.trans (hb2.mono (by omega))
  have hs2 := hb2.size
  clear hb2 hw2 HK1
  obtain ⟨gv, vc, rfl, hwc⟩ := HW2.out.at (by omega)
  have HWC : Hid _ := hwc
  have HBY : Hid (BytesAt w2 a p) := bytesAt_below2 HB.out HB2.out
  have HNE : Hid (0 < p.length → ∀ b off, a = some ⟨b, off, none⟩ → b ≠ gc ∧ b ≠ gw) := by
    intro h0 b off ha
    rcases HB.out with h1 | ⟨b', off', h1, h2⟩
    · rw [h1] at h0; simp at h0
    · rw [ha] at h1
      simp at h1
      have hlt : b' < w.heap.size := World.block_lt_of_cell? w _ (h2 0 h0)
      omega
  clear hwc
  go_wp2_with fail
  go_loopg [5] p.length (fun g iv wr => ∃ (k : Nat) (cs ws : List Int), k ≤ p.length ∧ g = k ∧ iv = .int .i64 ((k : Int) - 1) ∧ Hid (KnownAt wr q gc gw cc cw cs ws) ∧ Hid (Rep p.length cs ws (known p k)) ∧ Hid (TwoKept w2 wr gc gw))
  case atStart => exact ⟨p.length, _, _, by omega, rfl, rfl, HK2, (Rep.blank p.length p.length (by omega)).congr (known_end p), TwoKept.refl _ _ _⟩
  case round =>
    obtain ⟨k, cs, ws, hk, hg, rfl, hkn, hrep, htk⟩ := hrel
    have HG : Hid (gk = k) := hg
    clear hg
    rcases Nat.eq_zero_or_pos k with hk0 | hk0
    · subst hk0
      have HR9 : Hid (Rep p.length cs ws (fun j => (net p).to j)) := hrep.out.congr (fun j _ => if_pos (Nat.zero_le j))
      go_wp2
      go_ret
      exact ⟨⟨htk.out.os.trans HB2.out.os, htk.out.tape.trans HB2.out.tape, htk.out.output.trans HB2.out.output, Nat.le_trans HB2.out.size htk.out.size, fun k hk => (htk.out.heap k (by omega) (by omega) (by omega)).trans (HB2.out.block k hk)⟩, q, gc, gw, cc, cw, cs, ws, hq, hgc, hgw, rfl, hkn.out, HR9.out⟩
    · obtain ⟨i, rfl⟩ : ∃ i, k = i + 1 := ⟨k - 1, by omega⟩
      have hii : ((i + 1 : Nat) : Int) - 1 = (i : Int) := by omega
      rw [hii]
      have hlt : i < p.length := by omega
      have HR0 : Hid (Rep p.length cs ws (pull p i [] (known p (i + 1)))) := hrep.out
      have hcl := hrep.out.lc
      have hwl := hrep.out.lw
      obtain ⟨xa, xu, hx, hxa, hci, hwi⟩ := HR0.out.there (l := 1) (by omega) (by omega)
      have HX : Hid ((net p).to (i + 1) = some (xa, xu)) := hx
      obtain ⟨a0, a1, a2, a3, a4, a5⟩ := hkn.out.cells (i + 1) (by omega) (by omega)
      rw [hci] at a2
      rw [hwi] at a3
      have hcap := cap9_range xu
      generalize hU : cap9 (xu : Int) = U at *
      have HU : Hid (cap9 (xu : Int) = U) := hU
      have hwi1 : IntKind.i64.wrap ((i : Int) + 1) = (i : Int) + 1 := wrapEq _ (by omega)
      have hkI : 0 ≤ (i : Int) + 1 ∧ (i : Int) + 1 < (cs.length : Int) := by omega
      have hkI2 : 0 ≤ (i : Int) + 1 ∧ (i : Int) + 1 < (ws.length : Int) := by omega
      have hw1 := (hrep.out.at' i (by omega)).ways
      have HC2 : Hid ((xa : Int) + 9 = ((xa + 9 : Nat) : Int)) := by show _ = _; omega
      have HM : Hid (Calls Tryz.prog 106 #[.pointer (some ⟨q, 0, none⟩), .int .i64 i, .int .i64 ((xa : Int) + 9), .int .i64 U] wr.drew fun e w' => e = .returned (.tuple #[]) ∧ KnownAt w' q gc gw cc cw (meetC cs i ((xa + 9 : Nat) : Int)) (meetW cs ws i ((xa + 9 : Nat) : Int) U) ∧ TwoKept wr.drew w' gc gw) := by
        show Calls _ _ _ _ _
        rw [HC2.out]
        exact meet_calls q gc gw cc cw cs ws i ((xa + 9 : Nat) : Int) U wr.drew hkn.out.drew (by omega) (by omega) (by omega) hcap hw1
      have HR1 : Hid (Rep p.length (meetC cs i ((xa + 9 : Nat) : Int)) (meetW cs ws i ((xa + 9 : Nat) : Int) U) (pull p i ([] ++ [(1, 9)]) (known p (i + 1)))) := by
        have := HR0.out.pulled (l := 1) (c := 9) hx (by omega) (by omega)
        rw [hU] at this
        exact this
      have HCL : Hid (cs.length = p.length + 1) := hcl
      have HWL : Hid (ws.length = p.length + 1) := hwl
      clear hx hci hwi hU hw1 hcl hwl hii
      go_wp2_with fail
      go_still_tail 19, (by kernel_rfl)
      rw [show ({ heap := wr.heap, tape := wr.tape, drawn := wr.drawn + 1, os := wr.os, output := wr.output } : World) = wr.drew from rfl]
      go_wp2_with fail
      refine (Calls.mono HM.out ?_)
      rintro e w3 ⟨rfl, hk3, ht3⟩
      have HK3 : Hid (KnownAt w3 q gc gw cc cw (meetC cs i ((xa + 9 : Nat) : Int)) (meetW cs ws i ((xa + 9 : Nat) : Int) U)) := hk3
      have HT3 : Hid (TwoKept w2 w3 gc gw) := htk.out.drew.trans ht3
      clear HM a0 a1 a2 a3 a4 a5 hkI hkI2 hk3 ht3 hkn hrep htk HR0 hwi1 hcap
      go_wp2_with fail
      go_loopg [6] 33 (fun g dv wd => ∃ (D : Nat) (cs ws : List Int), D ≤ 32 ∧ D ≤ i ∧ g = 33 - D ∧ dv = .int .i64 ((D : Int) + 1) ∧ Hid (KnownAt wd q gc gw cc cw cs ws) ∧ Hid (Rep p.length cs ws (pull p i ((1, 9) :: stepsTo p i D) (known p (i + 1)))) ∧ Hid (TwoKept w2 wd gc gw))
      case atStart => exact ⟨0, _, _, by omega, by omega, rfl, rfl, HK3, HR1, HT3⟩
      case round =>
        clear HK3 HR1 HT3
        obtain ⟨D, cs1, ws1, hD1, hD2, hg1, rfl, HK3, HR1, HT3⟩ := hrel
        have HG1 : Hid _ := hg1
        clear hg1
        by_cases hgo : D + 1 ≤ 32 ∧ D + 1 ≤ i
        · have hd1 : (D : Int) + 1 ≤ 32 := by omega
          have hd2 : (D : Int) + 1 ≤ (i : Int) := by omega
          have hd1' : ¬ 32 < (D : Int) + 1 := by omega
          have hd2' : ¬ (i : Int) < (D : Int) + 1 := by omega
          have HCD : Hid ((D : Int) + 1 = ((D + 1 : Nat) : Int)) := by show _ = _; omega
          go_wp2_with fail
          rw [HCD.out]
          refine (alike_is a p cap i (D + 1) wr hp (bytes_two HBY.out HT3.out HNE.out) (by omega) (by omega) (by omega)).mono ?_
          rintro e w4 ⟨rfl, nd, rfl⟩
          have HK4 : Hid (KnownAt (wr.drewN nd) q gc gw cc cw cs1 ws1) := HK3.out.drewN nd
          have HT4 : Hid (TwoKept w2 (wr.drewN nd) gc gw) := HT3.out.drewN nd
          have hal := (alk_most p i (D + 1) (by omega)).1.1
          generalize wr.drewN nd = w4 at *
          generalize hA : alk p i (D + 1) = n at *
          have HA : Hid (alk p i (D + 1) = n) := hA
          clear hA HK3 HT3
          go_wp2_with fail
          go_loopg [8] 65 (fun g lv wl => ∃ (j : Nat) (cs ws : List Int), j ≤ n - 1 ∧ g = 65 - j ∧ lv = .int .i64 ((j : Int) + 2) ∧ Hid (KnownAt wl q gc gw cc cw cs ws) ∧ Hid (Rep p.length cs ws (pull p i (((1, 9) :: stepsTo p i D) ++ stepsD (D + 1) j) (known p (i + 1)))) ∧ Hid (TwoKept w2 wl gc gw))
          case atStart => exact ⟨0, cs1, ws1, by omega, rfl, rfl, HK4, by show Rep _ _ _ _; rw [show stepsD (D + 1) 0 = [] from rfl, List.append_nil]; exact HR1.out, HT4⟩
          case round =>
            clear HK4 HR1 HT4
            obtain ⟨j, cs2, ws2, hj, hg2, rfl, HK5, HR5, HT5⟩ := hrel
            have HG2 : Hid _ := hg2
            clear hg2
            by_cases hln : j + 2 ≤ n
            · obtain ⟨l, hl2⟩ : ∃ l : Nat, l = j + 2 := ⟨_, rfl⟩
              have HL2 : Hid (l = j + 2) := hl2
              have hlj : l ≤ j + 2 ∧ j + 2 ≤ l := by omega
              have hL : (j : Int) + 2 = (l : Int) := by omega
              rw [hL]
              have HLI : Hid ((j : Int) + 2 = (l : Int)) := hL
              clear hl2 hL
              have hln' : (l : Int) ≤ (n : Int) := by omega
              have hcl := HR5.out.lc
              have hwl := HR5.out.lw
              obtain ⟨xb, xv, hx, hxb, hci, hwi⟩ := HR5.out.there (l := l) (by omega) (by omega)
              have HX2 : Hid ((net p).to (i + l) = some (xb, xv)) := hx
              obtain ⟨a0, a1, a2, a3, a4, a5⟩ := HK5.out.cells (i + l) (by omega) (by omega)
              obtain ⟨m, hm⟩ : ∃ m : Nat, m = i + l := ⟨_, rfl⟩
              rw [hci, ← hm] at a2
              rw [hwi, ← hm] at a3
              rw [← hm] at a4 a5
              have hmi : m ≤ i + l ∧ i + l ≤ m := by omega
              have hcap := cap9_range xv
              generalize hV : cap9 (xv : Int) = V at *
              have HV : Hid (cap9 (xv : Int) = V) := hV
              have hgv : w1.heap.size ≤ gv ∧ gv < w2.heap.size := World.ownsRow.lt HW2.out gv rfl
              have b1 : wr.cell? ⟨gv, l - 1, none⟩ = some (.int .i64 ((Tok.numLen (l - 1) : Nat) : Int)) := by
                rw [World.cell?_of_block (a := ⟨gv, l - 1, none⟩) (HT5.out.heap gv hgv.2 (by omega) (by omega)), ← wid_pos (l - 1) (by omega)]
                exact HWC.out (l - 1) (by omega)
              have b2 : wr.cell? ⟨gv, D + 1, none⟩ = some (.int .i64 ((Tok.numLen (D + 1) : Nat) : Int)) := by
                rw [World.cell?_of_block (a := ⟨gv, D + 1, none⟩) (HT5.out.heap gv hgv.2 (by omega) (by omega)), ← wid_pos (D + 1) (by omega)]
                exact HWC.out (D + 1) (by omega)
              have hn1 := numLen_le (l - 1) (by omega)
              have hn2 := numLen_le (D + 1) (by omega)
              have HSD : Hid (((1, 9) :: stepsTo p i D) ++ stepsD (D + 1) (j + 1) = (((1, 9) :: stepsTo p i D) ++ stepsD (D + 1) j) ++ [(l, 1 + Tok.numLen (l - 1) + Tok.numLen (D + 1))]) := by show _ = _; rw [stepsD_succ, List.append_assoc, HL2.out]; rfl
              have hw1 := (HR5.out.at' i (by omega)).ways
              have HR6 : Hid (Rep p.length (meetC cs2 i ((xb + (1 + Tok.numLen (l - 1) + Tok.numLen (D + 1)) : Nat) : Int)) (meetW cs2 ws2 i ((xb + (1 + Tok.numLen (l - 1) + Tok.numLen (D + 1)) : Nat) : Int) V) (pull p i (((1, 9) :: stepsTo p i D) ++ stepsD (D + 1) (j + 1)) (known p (i + 1)))) := by
                have := HR5.out.pulled (l := l) (c := 1 + Tok.numLen (l - 1) + Tok.numLen (D + 1)) hx (by omega) (by omega)
                rw [hV] at this
                show Rep _ _ _ _
                rw [HSD.out]
                exact this
              have hkI : 0 ≤ (m : Int) ∧ (m : Int) < (cs2.length : Int) := by omega
              have hkI2 : 0 ≤ (m : Int) ∧ (m : Int) < (ws2.length : Int) := by omega
              have hwi1 : IntKind.i64.wrap ((i : Int) + (l : Int)) = (m : Int) := by rw [wrapEq _ (by omega)]; omega
              have hwj : IntKind.i64.wrap ((l : Int) - 1) = ((l - 1 : Nat) : Int) := by rw [wrapEq _ (by omega)]; omega
              have hjI : 0 ≤ ((l - 1 : Nat) : Int) ∧ ((l - 1 : Nat) : Int) < 65 := by omega
              have hdI : 0 ≤ (D : Int) + 1 ∧ (D : Int) + 1 < 65 := by omega
              generalize hn3 : Tok.numLen (l - 1) = N1 at *
              generalize hn4 : Tok.numLen (D + 1) = N2 at *
              have HC2 : Hid ((xb : Int) + 1 + (N1 : Int) + (N2 : Int) = ((xb + (1 + N1 + N2) : Nat) : Int)) := by show _ = _; omega
              have HM : Hid (Calls Tryz.prog 106 #[.pointer (some ⟨q, 0, none⟩), .int .i64 i, .int .i64 ((xb : Int) + 1 + (N1 : Int) + (N2 : Int)), .int .i64 V] wr.drew fun e w' => e = .returned (.tuple #[]) ∧ KnownAt w' q gc gw cc cw (meetC cs2 i ((xb + (1 + N1 + N2) : Nat) : Int)) (meetW cs2 ws2 i ((xb + (1 + N1 + N2) : Nat) : Int) V) ∧ TwoKept wr.drew w' gc gw) := by
                show Calls _ _ _ _ _
                rw [HC2.out]
                exact meet_calls q gc gw cc cw cs2 ws2 i ((xb + (1 + N1 + N2) : Nat) : Int) V wr.drew HK5.out.drew (by omega) (by omega) (by omega) hcap hw1
              clear hx hci hwi hcl hwl hw1 hgv hV hm
              go_wp2_with fail
              go_still_tail 32, (by kernel_rfl)
              rw [show ({ heap := wr.heap, tape := wr.tape, drawn := wr.drawn + 1, os := wr.os, output := wr.output } : World) = wr.drew from rfl]
              go_wp2_with fail
              refine (Calls.mono HM.out ?_)
              rintro e w6 ⟨rfl, hk6, ht6⟩
              have HK6 : Hid (KnownAt w6 q gc gw cc cw (meetC cs2 i ((xb + (1 + N1 + N2) : Nat) : Int)) (meetW cs2 ws2 i ((xb + (1 + N1 + N2) : Nat) : Int) V)) := hk6
              have HT6 : Hid (TwoKept w2 w6 gc gw) := HT5.out.drew.trans ht6
              clear HM a0 a1 a2 a3 a4 a5 b1 b2 hkI hkI2 hjI hdI hwj hwi1 hk6 ht6
              go_wp2
              go_roundg (65 - (j + 1))
              case measure => have := HG2.out; omega
              case rel => exact ⟨j + 1, _, _, by omega, rfl, by rw [← HLI.out]; go_num, HK6, HR6, HT6⟩
            · have hjn : j = n - 1 := by omega
              have HR6 : Hid (Rep p.length cs2 ws2 (pull p i ((1, 9) :: stepsTo p i (D + 1)) (known p (i + 1)))) := by
                have := HR5.out
                rw [hjn, ← HA.out] at this
                show Rep _ _ _ _
                rw [stepsTo_succ, ← List.cons_append]
                exact this
              have hln' : ¬ (j : Int) + 2 ≤ (n : Int) := by omega
              go_wp2
              go_roundg (33 - (D + 1))
              case measure => have := HG1.out; omega
              case rel => exact ⟨D + 1, cs2, ws2, by omega, by omega, rfl, by go_num, HK5, HR6, HT5⟩
        · have HR6 : Hid (Rep p.length cs1 ws1 (known p i)) := by
            have := HR1.out
            rw [show D = min 32 i by omega, ← net_steps] at this
            exact this.congr (fun j _ => pull_all p i hlt j)
          by_cases h32 : (D : Int) + 1 ≤ 32
          · have hdi : ¬ (D : Int) + 1 ≤ (i : Int) := by omega
            clear hgo
            go_wp2
            go_roundg i
            case measure => have := HG.out; omega
            case rel => exact ⟨i, cs1, ws1, by omega, rfl, by go_num, HK3, HR6, HT3⟩
          · clear hgo
            go_wp2
            go_roundg i
            case measure => have := HG.out; omega
            case rel => exact ⟨i, cs1, ws1, by omega, rfl, by go_num, HK3, HR6, HT3⟩
end Go.Proofs.YtnpnaglgllcpfaaGreat

/- What the document's Cost tells of tokens in memory. -/
namespace Go.Proofs.YtnpnaglgllcpfaaGreat
set_option maxRecDepth 100000
open Go.RowKit

set_option maxHeartbeats 400000 in
theorem refCost_calls (a : Option Addr) (ts : List Tok) (cap : Nat) (w : World) (hl : ts.length ≤ 64) (ht : ToksAt w a ts) (hp : ∀ t ∈ ts, Tok.plainB t ∧ Tok.cost t ≤ 31) :
    Calls Tryz.prog 37 #[.slice a ts.length cap] w fun e w' => e = .returned (.int .i64 (Tok.costs ts)) ∧ Below w.heap.size w w' := by
  have HT : Hid (ToksAt w a ts) := ht
  have HP : Hid (∀ t ∈ ts, Tok.plainB t ∧ Tok.cost t ≤ 31) := hp
  clear ht hp
  go_enter Tryz.func37, Tryz.ntmps37
  go_wp2
  go_loopw [3, 4] (fun c i wr => ∃ (k : Nat), k ≤ ts.length ∧ i = .int .i64 k ∧ c = .int .i64 (Tok.costs (ts.take k)) ∧ Below w.heap.size w wr) (fun _ i _ => ts.length - (intOf i).toNat)
  case atStart => exact ⟨0, Nat.zero_le _, rfl, rfl, Below.refl _ _⟩
  case round =>
    obtain ⟨k, hk, rfl, rfl, hb⟩ := hrel
    have hle : Tok.costs (ts.take k) ≤ 31 * k := by
      have := Tok.costs_le (ts.take k) fun t ht => HP.out t (List.mem_of_mem_take ht)
      rw [List.length_take] at this; omega
    by_cases hlt : k < ts.length
    · obtain ⟨b, off, ha, hbl, hcell⟩ : ∃ b off, a = some ⟨b, off, none⟩ ∧ b < wr.heap.size ∧ ∀ i (hi : i < ts.length),
          wr.cell? ⟨b, off + i * 3, none⟩ = some (.int .i64 ts[i].len) ∧ wr.cell? ⟨b, off + i * 3 + 1, none⟩ = some (.int .i64 ts[i].dist) ∧ wr.cell? ⟨b, off + i * 3 + 2, none⟩ = some (.int .i64 ts[i].byte) := by
        rcases HT.out.below hb with h | h
        · rw [h] at hlt; simp at hlt
        · exact h
      subst ha
      obtain ⟨c0, c1, c2⟩ := hcell k hlt
      clear hcell
      have HC : Tok.costs (ts.take (k + 1)) = Tok.costs (ts.take k) + Tok.cost ts[k] := by rw [Tok.take_snoc ts k hlt, Tok.costs_snoc]
      have hpl := HP.out ts[k] (List.getElem_mem hlt)
      generalize ts[k] = t at *
      obtain ⟨l, d, x⟩ := t
      simp only at c0 c1 c2
      obtain ⟨hpl, hcl⟩ := hpl
      have hsz : Hid ((text (Tok.bits ⟨l, d, x⟩)).size = Tok.cost ⟨l, d, x⟩) := by
        show _ = _
        rw [← Tok.bits_length]; simp [text, ByteArray.size, chars_length]
      generalize hC : Tok.costs (ts.take k) = C at *
      have HC' : Hid _ := HC
      have HC0 : Hid _ := hC
      clear HC hC
      go_wp2_with fail
      refine (bits_calls l d x _ hpl).mono ?_
      rintro e w1 ⟨rfl, hb1⟩
      have hbw : Below w.heap.size w w1 := hb.trans (hb1.mono hb.size)
      have hs' : (text (Tok.bits ⟨l, d, x⟩)).size ≤ 31 := by rw [hsz.out]; exact hcl
      generalize text (Tok.bits ⟨l, d, x⟩) = s at *
      clear hb1
      go_wp2
      go_roundw
      case rel => exact ⟨k + 1, by omega, by go_num, by rw [HC'.out, ← hsz.out]; go_num, hbw⟩
      case measure => simp [intOf]; omega
    · have hke : k = ts.length := by omega
      have HC : Hid (Tok.costs (ts.take k) = Tok.costs ts) := by rw [hke, List.take_length]; rfl
      clear hke
      generalize hC : Tok.costs (ts.take k) = C at *
      clear hC
      go_wp2
      go_ret
      exact ⟨ret_i64 (by rw [← HC.out]), hb⟩
end Go.Proofs.YtnpnaglgllcpfaaGreat

/- Are tokens right, do they make the piece, is their cost the least: pressref.Best. -/
namespace Go.Proofs.YtnpnaglgllcpfaaGreat
set_option maxRecDepth 100000
open Go.RowKit

set_option maxHeartbeats 1000000 in
theorem best_calls (a b : Option Addr) (p : List UInt8) (ts : List Tok) (cap cb : Nat) (w : World) (hp : p.length ≤ 64) (hl : ts.length ≤ 9223372036854775807) (hb : BytesAt w a p) (ht : ToksAt w b ts) :
    Calls Tryz.prog 53 #[.slice a p.length cap, .slice b ts.length cb] w fun e w' => Below w.heap.size w w' ∧ e = .returned (.bool (bestB p ts)) := by
  have HB : Hid (BytesAt w a p) := hb
  have HT : Hid (ToksAt w b ts) := ht
  clear hb ht
  go_enter Tryz.func53, Tryz.ntmps53
  go_wp2_with fail
  refine (make_calls b ts cb w hl HT.out).mono ?_
  rintro e w1 ⟨hb1, ⟨hnone, rfl⟩ | ⟨out, v, hex, hol, rfl, hown⟩⟩
  · have HE : Hid (bestB p ts = false) := by show _ = _; unfold bestB; rw [hnone]
    have HB1 : Hid (Below w.heap.size w w1) := hb1
    clear hb1 hnone
    go_wp2
    go_ret
    exact ⟨HB1.out, by rw [HE.out]; rfl⟩
  · have HB1 : Hid (Below w.heap.size w w1) := hb1
    have HEX : Hid (Tok.expand [] ts = some out) := hex
    have HO : Hid (OwnB w1 w.heap.size v out) := hown
    have k1 := conv_own hown
    have k2 := conv_bytes cap (bytesAt_below2 HB.out hb1)
    have k1' := fun n => conv_own (w := w1.drewN n) hown
    have k2' := fun n => conv_bytes (w := w1.drewN n) cap (bytesAt_below2 HB.out (below_drewN hb1 n))
    have htl : ts.length ≤ 64 := by have := Tok.expand_many ts [] out hex; simp at this; omega
    have hs1 := hb1.size
    obtain ⟨ao, cp, rfl⟩ := hown.form
    clear hb1 hex hown
    by_cases hop : out = p
    · subst hop
      have hbe : Hid (bestB out ts = decide (Tok.costs ts = leastC out)) := by show _ = _; unfold bestB; rw [HEX.out]; simp
      go_wp2_with fail
      refine (least_calls a out cap _ hp (bytesAt_below2 HB.out HB1.out)).mono ?_
      rintro e w2 ⟨hb2, rfl⟩
      have HB2 : Hid (Below w.heap.size w w2) := HB1.out.trans (hb2.mono hs1)
      have hc1 := leastC_le out
      generalize hC : leastC out = C at *
      have HC : Hid (leastC out = C) := hC
      clear hb2 hC k1 k2 k1' k2'
      go_wp2_with fail
      refine (refCost_calls b ts cb _ htl (HT.out.below HB2.out) (Tok.expand_all ts [] out HEX.out)).mono ?_
      rintro e w3 ⟨rfl, hb3⟩
      have HB3 : Hid (Below w.heap.size w w3) := HB2.out.trans (hb3.mono HB2.out.size)
      clear hb3
      generalize hK : Tok.costs ts = K at *
      have HKK : Hid (Tok.costs ts = K) := hK
      clear hK
      go_wp2
      go_ret
      refine ⟨HB3.out, ?_⟩
      rw [hbe.out]
      by_cases hkc : K = C
      · subst hkc; simp
      · have : ((K : Int) == (C : Int)) = false := by simp; omega
        simp [hkc]
        omega
    · have HE : Hid (bestB p ts = false) := by show _ = _; unfold bestB; rw [HEX.out]; simp [hop]
      have hne : (!(out == p)) = true := by simp [hop]
      go_wp2
      go_ret
      exact ⟨HB1.out, by rw [HE.out]; rfl⟩
end Go.Proofs.YtnpnaglgllcpfaaGreat
