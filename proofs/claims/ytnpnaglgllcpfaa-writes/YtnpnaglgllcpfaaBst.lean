/-
  The document's least cost: capped, meet.
-/
import Derived.Test.YtnpnaglgllcpfaaAl
import Derived.BigRegion
namespace Go.Proofs.Ytnpnaglgllcpfaa
set_option maxRecDepth 100000
open Go.RowKit

theorem capped_calls (n : Int) (w : World) : Calls Try.prog 111 #[.int .i64 n] w fun e w' => e = .returned (.int .i64 (cap9 n)) ∧ w' = w := by
  by_cases h : 1000000000 < n
  · go_enter Try.func111, Try.ntmps111
    go_wp2
    go_ret
    exact ⟨ret_i64 (by unfold cap9; omega), rfl⟩
  · go_enter Try.func111, Try.ntmps111
    go_wp2
    go_ret
    exact ⟨ret_i64 (by unfold cap9; omega), rfl⟩

def ints (l : List Int) : Array Value := (l.map fun n => Value.int .i64 n).toArray
/-- What is known lies in memory. -/
structure KnownAt (w : World) (q gc gw cc cw : Nat) (cs ws : List Int) : Prop where
  box : w.heap[q]? = some (.cells #[.slice (some ⟨gc, 0, none⟩) cs.length cc, .slice (some ⟨gw, 0, none⟩) ws.length cw] 124 (0, 0))
  costs : w.heap[gc]? = some (.cells (ints cs) 3 (0, 0))
  ways : w.heap[gw]? = some (.cells (ints ws) 3 (0, 0))
  ne1 : q ≠ gc
  ne2 : q ≠ gw
  ne3 : gc ≠ gw
theorem cell_of {w : World} {q : Nat} {cs : Array Value} {t : TypeId} {mk : Nat × Nat} (h : w.heap[q]? = some (.cells cs t mk)) (i : Nat) (v : Value) (hv : cs[i]? = some v) : w.cell? ⟨q, i, none⟩ = some v := by
  simp [World.cell?, h, hv]
theorem frozen_of {w : World} {q : Nat} {cs : Array Value} {t : TypeId} (h : w.heap[q]? = some (.cells cs t (0, 0))) (i : Nat) : w.frozen? ⟨q, i, none⟩ = false := by
  simp [World.frozen?, h]
structure KCells (w : World) (q gc gw cc cw : Nat) (cs ws : List Int) (k : Nat) : Prop where
  c0 : w.cell? ⟨q, 0, none⟩ = some (.slice (some ⟨gc, 0, none⟩) cs.length cc)
  c1 : w.cell? ⟨q, 1, none⟩ = some (.slice (some ⟨gw, 0, none⟩) ws.length cw)
  c2 : w.cell? ⟨gc, k, none⟩ = some (.int .i64 (cs.getD k 0))
  c3 : w.cell? ⟨gw, k, none⟩ = some (.int .i64 (ws.getD k 0))
  f2 : w.frozen? ⟨gc, k, none⟩ = false
  f3 : w.frozen? ⟨gw, k, none⟩ = false
theorem KnownAt.cells {w : World} {q gc gw cc cw : Nat} {cs ws : List Int} (h : KnownAt w q gc gw cc cw cs ws) (k : Nat) (hk : k < cs.length) (hk' : k < ws.length) : KCells w q gc gw cc cw cs ws k :=
  ⟨cell_of h.box 0 _ rfl, cell_of h.box 1 _ rfl, cell_of h.costs k _ (by simp [ints, hk, List.getD]), cell_of h.ways k _ (by simp [ints, hk', List.getD]), frozen_of h.costs k, frozen_of h.ways k⟩
theorem ints_set (l : List Int) (k : Nat) (x : Int) : (ints l).setIfInBounds k (.int .i64 x) = ints (l.set k x) := by
  unfold ints
  rw [List.setIfInBounds_toArray, List.map_set]
theorem KnownAt.setC {w : World} {q gc gw cc cw : Nat} {cs ws : List Int} (h : KnownAt w q gc gw cc cw cs ws) (k : Nat) (x : Int) : KnownAt (w.setCell ⟨gc, k, none⟩ (.int .i64 x)) q gc gw cc cw (cs.set k x) ws :=
  ⟨by rw [set_other _ h.ne1, List.length_set]; exact h.box, by rw [set_block h.costs, ints_set], by rw [set_other _ (Ne.symm h.ne3)]; exact h.ways, h.ne1, h.ne2, h.ne3⟩
theorem KnownAt.setW {w : World} {q gc gw cc cw : Nat} {cs ws : List Int} (h : KnownAt w q gc gw cc cw cs ws) (k : Nat) (x : Int) : KnownAt (w.setCell ⟨gw, k, none⟩ (.int .i64 x)) q gc gw cc cw cs (ws.set k x) :=
  ⟨by rw [set_other _ h.ne2, List.length_set]; exact h.box, by rw [set_other _ h.ne3]; exact h.costs, by rw [set_block h.ways, ints_set], h.ne1, h.ne2, h.ne3⟩
theorem KnownAt.below {w w' : World} {q gc gw cc cw : Nat} {cs ws : List Int} (h : KnownAt w q gc gw cc cw cs ws) (hb : Below w.heap.size w w') : KnownAt w' q gc gw cc cw cs ws :=
  ⟨by rw [hb.block q (Array.getElem?_eq_some_iff.1 h.box).1]; exact h.box, by rw [hb.block gc (Array.getElem?_eq_some_iff.1 h.costs).1]; exact h.costs, by rw [hb.block gw (Array.getElem?_eq_some_iff.1 h.ways).1]; exact h.ways, h.ne1, h.ne2, h.ne3⟩
theorem KnownAt.drewN {w : World} {q gc gw cc cw : Nat} {cs ws : List Int} (h : KnownAt w q gc gw cc cw cs ws) (n : Nat) : KnownAt (w.drewN n) q gc gw cc cw cs ws := ⟨h.box, h.costs, h.ways, h.ne1, h.ne2, h.ne3⟩

/-- All blocks but two are as they were. -/
structure TwoKept (w w' : World) (g h : Nat) : Prop where
  os : w'.os = w.os
  tape : w'.tape = w.tape
  output : w'.output = w.output
  size : w.heap.size ≤ w'.heap.size
  heap : ∀ k, k < w.heap.size → k ≠ g → k ≠ h → w'.heap[k]? = w.heap[k]?
theorem TwoKept.refl (w : World) (g h : Nat) : TwoKept w w g h := ⟨rfl, rfl, rfl, Nat.le_refl _, fun _ _ _ _ => rfl⟩
theorem TwoKept.trans {w w1 w2 : World} {g h : Nat} (a : TwoKept w w1 g h) (b : TwoKept w1 w2 g h) : TwoKept w w2 g h :=
  ⟨b.os.trans a.os, b.tape.trans a.tape, b.output.trans a.output, Nat.le_trans a.size b.size, fun k hk h1 h2 => (b.heap k (Nat.lt_of_lt_of_le hk a.size) h1 h2).trans (a.heap k hk h1 h2)⟩
theorem TwoKept.drewN {w w' : World} {g h : Nat} (a : TwoKept w w' g h) (n : Nat) : TwoKept w (w'.drewN n) g h := ⟨a.os, a.tape, a.output, a.size, a.heap⟩
theorem TwoKept.drew {w w' : World} {g h : Nat} (a : TwoKept w w' g h) : TwoKept w w'.drew g h := ⟨a.os, a.tape, a.output, a.size, a.heap⟩
theorem TwoKept.set1 {w w' : World} {g h i : Nat} (a : TwoKept w w' g h) (u : Value) : TwoKept w (w'.setCell ⟨g, i, none⟩ u) g h :=
  ⟨a.os, a.tape, a.output, by rw [set_size]; exact a.size, fun k hk h1 h2 => by rw [set_other u h1]; exact a.heap k hk h1 h2⟩
theorem TwoKept.set2 {w w' : World} {g h i : Nat} (a : TwoKept w w' g h) (u : Value) : TwoKept w (w'.setCell ⟨h, i, none⟩ u) g h :=
  ⟨a.os, a.tape, a.output, by rw [set_size]; exact a.size, fun k hk h1 h2 => by rw [set_other u h2]; exact a.heap k hk h1 h2⟩
theorem KnownAt.drew {w : World} {q gc gw cc cw : Nat} {cs ws : List Int} (h : KnownAt w q gc gw cc cw cs ws) : KnownAt w.drew q gc gw cc cw cs ws := ⟨h.box, h.costs, h.ways, h.ne1, h.ne2, h.ne3⟩
theorem wrapEq (x : Int) (h : -9223372036854775808 ≤ x ∧ x ≤ 9223372036854775807) : IntKind.i64.wrap x = x := by rw [IntKind.wrap_i64]; omega

set_option maxHeartbeats 1000000 in
theorem meet_calls (q gc gw cc cw : Nat) (cs ws : List Int) (k : Nat) (cost ways : Int) (w : World) (h : KnownAt w q gc gw cc cw cs ws) (hl : ws.length = cs.length) (hk : k < cs.length)
    (hc : 0 ≤ cost ∧ cost ≤ 2000000000) (hw : 0 ≤ ways ∧ ways ≤ 1000000000) (hwk : 0 ≤ ws.getD k 0 ∧ ws.getD k 0 ≤ 1000000000) :
    Calls Try.prog 106 #[.pointer (some ⟨q, 0, none⟩), .int .i64 k, .int .i64 cost, .int .i64 ways] w fun e w' => e = .returned (.tuple #[]) ∧ KnownAt w' q gc gw cc cw (meetC cs k cost) (meetW cs ws k cost ways) ∧ TwoKept w w' gc gw := by
  have hk' : k < ws.length := by omega
  have hsl : (cs.set k cost).length = cs.length := by simp
  have hsl2 : ∀ x, (ws.set k x).length = ws.length := by simp
  have K1 := h.cells k hk hk'
  have K2 := (h.setC k cost).cells k (by omega) hk'
  have K3 := ((h.setC k cost).setW k 0).cells k (by omega) (by rw [hsl2]; omega)
  have HK : Hid (KnownAt w q gc gw cc cw cs ws) := h
  have hkI : 0 ≤ (k : Int) ∧ (k : Int) < (cs.length : Int) := by omega
  have hkI2 : 0 ≤ (k : Int) ∧ (k : Int) < (ws.length : Int) := by omega
  have g1 : (cs.set k cost).getD k 0 = cost := by simp [List.getD, hk]
  have g2 : (ws.set k 0).getD k 0 = 0 := by simp [List.getD, hk']
  obtain ⟨a0, a1, a2, a3, a4, a5⟩ := K1
  obtain ⟨b0, b1, b2, b3, b4, b5⟩ := K2
  obtain ⟨d0, d1, d2, d3, d4, d5⟩ := K3
  rw [hsl] at b0 d0
  rw [hsl2] at d1
  rw [g1] at b2 d2
  rw [g2] at d3
  have HL : Hid (ws.length = cs.length) := hl
  clear h hl hsl hsl2 g1 g2
  go_enter Try.func106, Try.ntmps106
  rcases Int.lt_or_le cost (cs.getD k 0) with hlt | hge
  · have HM : Hid (meetC cs k cost = cs.set k cost ∧ meetW cs ws k cost ways = (ws.set k 0).set k (cap9 (0 + ways))) := by
      refine ⟨by unfold meetC; rw [if_pos hlt], ?_⟩
      unfold meetW
      rw [if_pos hlt, List.set_set, Int.zero_add]
    generalize hx : cs.getD k 0 = x at *
    generalize hy : ws.getD k 0 = y at *
    clear hx hy
    have HK3 : Hid (KnownAt ((w.setCell ⟨gc, k, none⟩ (.int .i64 cost)).setCell ⟨gw, k, none⟩ (.int .i64 0)) q gc gw cc cw (cs.set k cost) (ws.set k 0)) := (HK.out.setC k cost).setW k 0
    have HF3 : Hid (TwoKept w ((w.setCell ⟨gc, k, none⟩ (.int .i64 cost)).setCell ⟨gw, k, none⟩ (.int .i64 0)) gc gw) := ((TwoKept.refl _ _ _).set1 _).set2 _
    have HWR : Hid (IntKind.i64.wrap ways = 0 + ways) := by show _ = _; rw [wrapEq ways (by omega), Int.zero_add]
    go_wp2_with fail
    clear a0 a1 a2 a3 a4 a5 b0 b1 b2 b3 b4 b5
    generalize (w.setCell ⟨gc, k, none⟩ (.int .i64 cost)).setCell ⟨gw, k, none⟩ (.int .i64 0) = w2 at *
    go_region_with (go_at_call 111; refine (capped_calls _ _).mono ?_; rintro e w' ⟨rfl, rfl⟩)
    all_goals
      go_end0
      refine ⟨rfl, ?_, (HF3.out.set2 _).drew⟩
      rw [HM.out.1, HM.out.2, HWR.out]
      exact (HK3.out.setW k _).drew
  · clear b0 b1 b2 b3 b4 b5 d0 d1 d2 d3 d4 d5
    rcases Int.lt_or_eq_of_le hge with hgt | heq
    · have HM : Hid (meetC cs k cost = cs ∧ meetW cs ws k cost ways = ws) := by
        refine ⟨by unfold meetC; rw [if_neg (by omega)], ?_⟩
        unfold meetW
        rw [if_neg (by omega), if_neg (by omega)]
      generalize hx : cs.getD k 0 = x at *
      generalize hy : ws.getD k 0 = y at *
      clear hx hy
      have hb : (cost == x) = false := by simp; omega
      go_wp2
      go_end0
      refine ⟨rfl, ?_, TwoKept.refl _ _ _⟩
      rw [HM.out.1, HM.out.2]
      exact HK.out
    · have HM : Hid (meetC cs k cost = cs ∧ meetW cs ws k cost ways = ws.set k (cap9 (ws.getD k 0 + ways))) := by
        refine ⟨by unfold meetC; rw [if_neg (by omega)], ?_⟩
        unfold meetW
        rw [if_neg (by omega), if_pos heq.symm]
      generalize hx : cs.getD k 0 = x at *
      generalize hy : ws.getD k 0 = y at *
      clear hx hy
      subst heq
      have HWR : Hid (IntKind.i64.wrap (y + ways) = y + ways) := wrapEq _ (by omega)
      go_wp2_with fail
      go_region_with (go_at_call 111; refine (capped_calls _ _).mono ?_; rintro e w' ⟨rfl, rfl⟩)
      all_goals
        go_end0
        refine ⟨rfl, ?_, ((TwoKept.refl _ _ _).set2 _).drew⟩
        rw [HM.out.1, HM.out.2, HWR.out]
        exact (HK.out.setW k _).drew
end Go.Proofs.Ytnpnaglgllcpfaa
