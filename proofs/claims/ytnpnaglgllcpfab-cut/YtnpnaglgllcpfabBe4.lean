/-
  What is known of every place: best.rests.
-/
import Derived.Test.YtnpnaglgllcpfabBe3
import Derived.Laws.MakeOwn
namespace Go.Proofs.Ytnpnaglgllcpfab
set_option maxRecDepth 100000
open Go.RowKit

/-- The table is the call's own; it tells of the places from lo on, and what the best lists begin with there. -/
def AllAt (w : World) (B g gc : Nat) (p : List UInt8) (lo : Nat) : Prop :=
  ∃ xs : List Value, w.ownsRow B 100 3 (.slice (some ⟨g, 0, none⟩) (p.length + 1) gc) (p.length + 1) xs ∧
    ∀ j, lo ≤ j → j ≤ p.length → xs[j * 3]? = some (.int .i64 (toC p j)) ∧ xs[j * 3 + 1]? = some (.int .i64 (capW p j)) ∧ ∃ a n c, xs[j * 3 + 2]? = some (.slice a n c) ∧ (j < p.length → n = (firsts p j).length ∧ TokRow w B (.slice a (firsts p j).length c) (firsts p j))
theorem AllAt.tab {w : World} {B g gc lo : Nat} {p : List UInt8} (h : AllAt w B g gc p lo) : TabAt w g p lo := by
  obtain ⟨xs, hr, hx⟩ := h
  intro j h1 h2
  obtain ⟨x0, x1, a, n, c, x2, _⟩ := hx j h1 h2
  exact ⟨by rw [hr.cellAt (j * 3) (by omega)]; exact x0, by rw [hr.cellAt (j * 3 + 1) (by omega)]; exact x1, a, n, c, by rw [hr.cellAt (j * 3 + 2) (by omega)]; exact x2⟩
theorem rowB {w w' : World} {B n z : Nat} {e : TypeId} {v : Value} {xs : List Value} (h : w.ownsRow B e z v n xs) (hb : Below w.heap.size w w') : w'.ownsRow B e z v n xs :=
  World.ownsRow.kept h (row := none) ⟨hb.os, hb.tape, hb.output, hb.size, fun k hk _ => hb.block k hk⟩ (by cases hv : v.ownBlock <;> simp)
theorem AllAt.below {w w' : World} {B g gc lo : Nat} {p : List UInt8} (h : AllAt w B g gc p lo) (hb : Below w.heap.size w w') : AllAt w' B g gc p lo := by
  obtain ⟨xs, hr, hx⟩ := h
  refine ⟨xs, rowB hr hb, fun j h1 h2 => ?_⟩
  obtain ⟨x0, x1, a, n, c, x2, r⟩ := hx j h1 h2
  exact ⟨x0, x1, a, n, c, x2, fun h => ⟨(r h).1, rowB (r h).2 hb⟩⟩
/-- One place more. -/
theorem AllAt.next {w : World} {B g gc i : Nat} {p : List UInt8} {a : Option Addr} {c : Nat} (h : AllAt w B g gc p (i + 1)) (hi : i < p.length) (hf : TokRow w B (.slice a (firsts p i).length c) (firsts p i)) :
    AllAt (((w.setCell ⟨g, i * 3, none⟩ (.int .i64 (toC p i))).setCell ⟨g, i * 3 + 1, none⟩ (.int .i64 (capW p i))).setCell ⟨g, i * 3 + 2, none⟩ (.slice a (firsts p i).length c)) B g gc p i := by
  obtain ⟨xs, hr, hx⟩ := h
  have hlen : xs.length = (p.length + 1) * 3 := hr.1
  have h1 := (hr.stored (i * 3) (.int .i64 (toC p i))).1
  have h2 := (h1.stored (i * 3 + 1) (.int .i64 (capW p i))).1
  have h3 := (h2.stored (i * 3 + 2) (.slice a (firsts p i).length c)).1
  have hrow : ∀ {v : Value} {ts : List Tok}, TokRow w B v ts → TokRow (((w.setCell ⟨g, i * 3, none⟩ (.int .i64 (toC p i))).setCell ⟨g, i * 3 + 1, none⟩ (.int .i64 (capW p i))).setCell ⟨g, i * 3 + 2, none⟩ (.slice a (firsts p i).length c)) B v ts := by
    intro v ts ht
    have hne : v.ownBlock ≠ some g := by
      intro e
      rcases ht.2 with ⟨rfl, _⟩ | ⟨g', cap, cur, rfl, _, hg', _⟩
      · simp [Value.ownBlock] at e
      · simp [Value.ownBlock] at e
        subst e
        rcases hr.2 with ⟨h', _⟩ | ⟨g2, cap2, cur2, h', _, hg2, _⟩
        · simp at h'
        · simp at h'
          rw [← h'.1, hg'] at hg2
          simp at hg2
    exact ownsRow_setCell_other (ownsRow_setCell_other (ownsRow_setCell_other ht (by simpa using hne) _) (by simpa using hne) _) (by simpa using hne) _
  refine ⟨_, h3, fun j hj1 hj2 => ?_⟩
  simp only [List.getElem?_set, List.length_set]
  by_cases hji : j = i
  · subst hji
    refine ⟨?_, ?_, a, (firsts p j).length, c, ?_, fun _ => ⟨rfl, hrow hf⟩⟩
    · rw [if_neg (by omega), if_neg (by omega), if_pos rfl, if_pos (by omega)]
    · rw [if_neg (by omega), if_pos rfl, if_pos (by omega)]
    · rw [if_pos rfl, if_pos (by omega)]
  · obtain ⟨x0, x1, a', n, c', x2, r⟩ := hx j (by omega) hj2
    refine ⟨?_, ?_, a', n, c', ?_, fun h => ⟨(r h).1, hrow (r h).2⟩⟩
    · rw [if_neg (by omega), if_neg (by omega), if_neg (by omega)]; exact x0
    · rw [if_neg (by omega), if_neg (by omega), if_neg (by omega)]; exact x1
    · rw [if_neg (by omega), if_neg (by omega), if_neg (by omega)]; exact x2

theorem AllAt.cells {w : World} {B g gc lo : Nat} {p : List UInt8} (h : AllAt w B g gc p lo) (j : Nat) (hj : j ≤ p.length) :
    (∃ y, w.cell? ⟨g, j * 3, none⟩ = some y) ∧ (∃ y, w.cell? ⟨g, j * 3 + 1, none⟩ = some y) ∧ (∃ y, w.cell? ⟨g, j * 3 + 2, none⟩ = some y) ∧ w.frozen? ⟨g, j * 3, none⟩ = false ∧ w.frozen? ⟨g, j * 3 + 1, none⟩ = false ∧ w.frozen? ⟨g, j * 3 + 2, none⟩ = false := by
  obtain ⟨xs, hr, _⟩ := h
  have hlen : xs.length = (p.length + 1) * 3 := hr.1
  refine ⟨⟨xs[j * 3]'(by omega), ?_⟩, ⟨xs[j * 3 + 1]'(by omega), ?_⟩, ⟨xs[j * 3 + 2]'(by omega), ?_⟩, hr.frozenAt _, hr.frozenAt _, hr.frozenAt _⟩
  · rw [hr.cellAt (j * 3) (by omega)]; exact List.getElem?_eq_getElem (by omega)
  · rw [hr.cellAt (j * 3 + 1) (by omega)]; exact List.getElem?_eq_getElem (by omega)
  · rw [hr.cellAt (j * 3 + 2) (by omega)]; exact List.getElem?_eq_getElem (by omega)
theorem made3 (a b c : Value) (m j : Nat) (h : j < m) : (madeCells #[a, b, c] (m * 3))[j * 3]? = some a ∧ (madeCells #[a, b, c] (m * 3))[j * 3 + 1]? = some b ∧ (madeCells #[a, b, c] (m * 3))[j * 3 + 2]? = some c := by
  have e0 : j * 3 % 3 = 0 := by omega
  have e1 : (j * 3 + 1) % 3 = 1 := by omega
  have e2 : (j * 3 + 2) % 3 = 2 := by omega
  have l0 : j * 3 < m * 3 := by omega
  have l1 : j * 3 + 1 < m * 3 := by omega
  have l2 : j * 3 + 2 < m * 3 := by omega
  simp [madeCells, e0, e1, e2, l0, l1, l2]
theorem all_new (w : World) (p : List UInt8) (hp : p.length ≤ 64) : AllAt (w.alloc (.cells ((madeCells #[.int .i64 0, .int .i64 0, .slice none 0 0] ((p.length + 1) * 3)).setIfInBounds (p.length * 3 + 1) (.int .i64 1)) 100)) w.heap.size w.heap.size (p.length + 1) p p.length := by
  have hl := World.ownsRow_lit (e := 100) (size := 3) (base := w.heap.size) w ((madeCells #[.int .i64 0, .int .i64 0, .slice none 0 0] ((p.length + 1) * 3)).setIfInBounds (p.length * 3 + 1) (.int .i64 1)) (p.length + 1) (Nat.le_refl _) (by unfold maxLen; omega) (by simp [madeCells])
  have h4 : (net p).to p.length = Dp.one := (net p).to_end
  have h5 : toC p p.length = 0 := by unfold toC; rw [h4]; rfl
  have h6 : capW p p.length = 1 := by unfold capW; rw [h4]; rfl
  have hs := hl.1
  refine ⟨_, hl, fun j h1 h2 => ?_⟩
  have hj : j = p.length := by omega
  subst hj
  obtain ⟨m0, m1, m2⟩ := made3 (.int .i64 0) (.int .i64 0) (.slice none 0 0) (p.length + 1) p.length (by omega)
  rw [h5, h6]
  refine ⟨?_, ?_, none, 0, 0, ?_, fun h => by omega⟩
  · rw [Array.getElem?_toList, Array.getElem?_setIfInBounds, if_neg (by omega)]; exact m0
  · rw [Array.getElem?_toList, Array.getElem?_setIfInBounds, if_pos rfl, if_pos (by simp at hs; omega)]; rfl
  · rw [Array.getElem?_toList, Array.getElem?_setIfInBounds, if_neg (by omega)]; exact m2

set_option maxHeartbeats 2000000 in
theorem rests_calls (a : Option Addr) (p : List UInt8) (cap : Nat) (w : World) (hp : p.length ≤ 64) (hb : BytesAt w a p) :
    Calls Try.prog 57 #[.slice a p.length cap] w fun e w' => Below w.heap.size w w' ∧ ∃ g gc, e = .returned (.slice (some ⟨g, 0, none⟩) (p.length + 1) gc) ∧ AllAt w' w.heap.size g gc p 0 := by
  have HB : Hid (BytesAt w a p) := hb
  clear hb
  obtain ⟨i0, hi, hz0, hz1, hz2⟩ := info_parts infoRest
  have hmk : ∀ wx : World, (Instr.makeSlice 97 (.int .i64 ((p.length : Int) + 1)) (.int .i64 ((p.length : Int) + 1))).run Try.prog wx = .ok (.slice (some ⟨wx.heap.size, 0, none⟩) (p.length + 1) (p.length + 1)) (wx.alloc (.cells (madeCells #[.int .i64 0, .int .i64 0, .slice none 0 0] ((p.length + 1) * 3)) 100)) := fun wx => by
    have h := run_make (P := Try.prog) (w := wx) 97 100 i0 (.agg #[.int .i64 0, .int .i64 0, .slice none 0 0]) Try.underlying97 hi hz0 .i64 .i64 ((p.length : Int) + 1) ((p.length : Int) + 1) (by omega) (by omega) (by rw [hz2]; omega) (by omega)
    rw [hz1, show ((p.length : Int) + 1).toNat = p.length + 1 by omega] at h
    exact h
  go_enter Try.func57, Try.ntmps57
  have hpI : 0 ≤ (p.length : Int) ∧ (p.length : Int) < ((p.length + 1 : Nat) : Int) := by omega
  have hmc := (made3 (.int .i64 0) (.int .i64 0) (.slice none 0 0) (p.length + 1) p.length (by omega)).2.1
  have HA0 : Hid (AllAt (w.alloc (.cells ((madeCells #[.int .i64 0, .int .i64 0, .slice none 0 0] ((p.length + 1) * 3)).setIfInBounds (p.length * 3 + 1) (.int .i64 1)) 100)) w.heap.size w.heap.size (p.length + 1) p p.length) := all_new w p hp
  have HB0 : Hid (Below w.heap.size w (w.alloc (.cells ((madeCells #[.int .i64 0, .int .i64 0, .slice none 0 0] ((p.length + 1) * 3)).setIfInBounds (p.length * 3 + 1) (.int .i64 1)) 100))) := (Below.refl _ _).alloc (Nat.le_refl _) _
  go_wp2_with fail
  generalize (w.alloc (.cells ((madeCells #[.int .i64 0, .int .i64 0, .slice none 0 0] ((p.length + 1) * 3)).setIfInBounds (p.length * 3 + 1) (.int .i64 1)) 100)) = w1 at *
  clear hmk hmc
  go_loopg [4] p.length (fun gk iv wr => ∃ lo : Nat, lo ≤ p.length ∧ gk = lo ∧ iv = .int .i64 ((lo : Int) - 1) ∧ Hid (AllAt wr w.heap.size w.heap.size (p.length + 1) p lo) ∧ Hid (Below w.heap.size w wr))
  case atStart => exact ⟨p.length, Nat.le_refl _, rfl, rfl, HA0, HB0⟩
  case round =>
    clear HA0 HB0
    obtain ⟨lo, hlo, hg, rfl, HA, HW⟩ := hrel
    have HG : Hid (gk = lo) := hg
    clear hg
    have hsz := HW.out.size
    rcases lo with _ | i
    · have h0 : ¬ (0 : Int) ≤ ((0 : Nat) : Int) - 1 := by omega
      go_wp2
      go_ret
      exact ⟨HW.out, _, _, rfl, HA.out⟩
    · have HI : Hid (((i + 1 : Nat) : Int) - 1 = (i : Int)) := by show _ = _; omega
      rw [HI.out]
      have hi0 : (0 : Int) ≤ (i : Int) := by omega
      go_wp2_with fail
      refine (restAt_calls a p cap i w.heap.size (p.length + 1) wr hp (bytesAt_below2 HB.out HW.out) (by omega) HA.out.tab).mono ?_
      rintro e w2 ⟨hb2, v, rfl, hv⟩
      obtain ⟨fa, fc, rfl⟩ := TokRow.form hv
      have hs2 := hb2.size
      have HA2 : Hid (AllAt w2 w.heap.size w.heap.size (p.length + 1) p (i + 1)) := HA.out.below hb2
      have HW2 : Hid (Below w.heap.size w w2) := HW.out.trans (hb2.mono hsz)
      have HF2 : Hid (TokRow w2 w.heap.size (.slice fa (firsts p i).length fc) (firsts p i)) := row_less hv hsz
      have HA3 : Hid (AllAt ((((w2.setCell ⟨w.heap.size, i * 3, none⟩ (.int .i64 (toC p i))).setCell ⟨w.heap.size, i * 3 + 1, none⟩ (.int .i64 (capW p i))).setCell ⟨w.heap.size, i * 3 + 2, none⟩ (.slice fa (firsts p i).length fc)).alloc (.cells #[.int .i64 (toC p i), .int .i64 (capW p i), .slice fa (firsts p i).length fc] 100)) w.heap.size w.heap.size (p.length + 1) p i) := (HA2.out.next (by omega) HF2.out).below ((Below.refl _ _).alloc (Nat.le_refl _) _)
      have HW3 : Hid (Below w.heap.size w ((((w2.setCell ⟨w.heap.size, i * 3, none⟩ (.int .i64 (toC p i))).setCell ⟨w.heap.size, i * 3 + 1, none⟩ (.int .i64 (capW p i))).setCell ⟨w.heap.size, i * 3 + 2, none⟩ (.slice fa (firsts p i).length fc)).alloc (.cells #[.int .i64 (toC p i), .int .i64 (capW p i), .slice fa (firsts p i).length fc] 100))) := (((HW2.out.setCell (by simp) _).setCell (by simp) _).setCell (by simp) _).alloc (by rw [set_size, set_size, set_size]; omega) _
      obtain ⟨⟨y0, hy0⟩, ⟨y1, hy1⟩, ⟨y2, hy2⟩, hf0, hf1, hf2⟩ := (HA.out.below hb2).cells i (by omega)
      have hgl : w.heap.size < w2.heap.size := World.block_lt_of_cell? w2 _ hy0
      have hiI : 0 ≤ (i : Int) ∧ (i : Int) < ((p.length + 1 : Nat) : Int) := by omega
      clear hb2 hv HA HW HA2 HW2 HF2
      generalize toC p i = C at *
      generalize capW p i = W at *
      generalize (firsts p i).length = N at *
      go_wp2
      go_roundg i
      case measure => have := HG.out; omega
      case rel => exact ⟨i, by omega, rfl, by go_num, HA3, HW3⟩
end Go.Proofs.Ytnpnaglgllcpfab
