/-
  Lemmas for the law All: Be4, Nsd, Psd, Cmd.
-/
import Derived.Test.YtnpnaglgllcpfaaGreatM19
import Derived.Laws.MakeOwn
/- What is known of every place: best.rests. -/
namespace Go.Proofs.YtnpnaglgllcpfaaGreat
set_option maxRecDepth 100000
open Go.RowKit

/-- The table is the call's own; it tells of the places from lo on, and what the best lists begin with there. -/
def AllAt (w : World) (B g gc : Nat) (p : List UInt8) (lo : Nat) : Prop :=
  ∃ xs : List Value, w.ownsRow B 157 3 (.slice (some ⟨g, 0, none⟩) (p.length + 1) gc) (p.length + 1) xs ∧
    ∀ j, lo ≤ j → j ≤ p.length → xs[j * 3]? = some (.int .i64 (toC p j)) ∧ xs[j * 3 + 1]? = some (.int .i64 (capW p j)) ∧ ∃ a n c, xs[j * 3 + 2]? = some (.slice a n c) ∧ (j < p.length → n = (firsts p j).length ∧ TokRow w B (.slice a (firsts p j).length c) (firsts p j))
theorem AllAt.tab {w : World} {B g gc lo : Nat} {p : List UInt8} (h : AllAt w B g gc p lo) : TabAt w g p lo := by
  obtain ⟨xs, hr, hx⟩ := h
  intro j h1 h2
  obtain ⟨x0, x1, a, n, c, x2, _⟩ := hx j h1 h2
  exact ⟨by rw [hr.cellAt (j * 3) (by omega)]; exact x0, by rw [hr.cellAt (j * 3 + 1) (by omega)]; exact x1, a, n, c, by rw [hr.cellAt (j * 3 + 2) (by omega)]; exact x2⟩
theorem rowB {w w' : World} {B n z : Nat} {e : TypeId} {v : Value} {xs : List Value} (h : w.ownsRow B e z v n xs) (hb : Below w.heap.size w w') : w'.ownsRow B e z v n xs :=
  World.ownsRow.kept h (row := none) ⟨hb.os, hb.tape, hb.output, hb.size, fun k hk _ => hb.block k hk⟩ (by cases hv : v.ownBlock <;> simp)
theorem AllAt.below {w w' : World} {B g gc lo : Nat} {p : List UInt8} (h : AllAt w B g gc p lo) (hb : Below w.heap.size w w') : AllAt w' B g gc p lo := by
  obtain ⟨xs, hr, hx⟩ := h
  refine ⟨xs, rowB hr hb, fun j h1 h2 => ?_⟩
  obtain ⟨x0, x1, a, n, c, x2, r⟩ := hx j h1 h2
  exact ⟨x0, x1, a, n, c, x2, fun h => ⟨(r h).1, rowB (r h).2 hb⟩⟩
/-- One place more. -/
theorem AllAt.next {w : World} {B g gc i : Nat} {p : List UInt8} {a : Option Addr} {c : Nat} (h : AllAt w B g gc p (i + 1)) (hi : i < p.length) (hf : TokRow w B (.slice a (firsts p i).length c) (firsts p i)) :
    AllAt (((w.setCell ⟨g, i * 3, none⟩ (.int .i64 (toC p i))).setCell ⟨g, i * 3 + 1, none⟩ (.int .i64 (capW p i))).setCell ⟨g, i * 3 + 2, none⟩ (.slice a (firsts p i).length c)) B g gc p i := by
  obtain ⟨xs, hr, hx⟩ := h
  have hlen : xs.length = (p.length + 1) * 3 := hr.1
  have h1 := (hr.stored (i * 3) (.int .i64 (toC p i))).1
  have h2 := (h1.stored (i * 3 + 1) (.int .i64 (capW p i))).1
  have h3 := (h2.stored (i * 3 + 2) (.slice a (firsts p i).length c)).1
  have hrow : ∀ {v : Value} {ts : List Tok}, TokRow w B v ts → TokRow (((w.setCell ⟨g, i * 3, none⟩ (.int .i64 (toC p i))).setCell ⟨g, i * 3 + 1, none⟩ (.int .i64 (capW p i))).setCell ⟨g, i * 3 + 2, none⟩ (.slice a (firsts p i).length c)) B v ts := by
    intro v ts ht
    have hne : v.ownBlock ≠ some g := by
      intro e
      rcases ht.2 with ⟨rfl, _⟩ | ⟨g', cap, cur, rfl, _, hg', _⟩
      · simp [Value.ownBlock] at e
      · simp [Value.ownBlock] at e
        subst e
        rcases hr.2 with ⟨h', _⟩ | ⟨g2, cap2, cur2, h', _, hg2, _⟩
        · simp at h'
        · simp at h'
          rw [← h'.1, hg'] at hg2
          simp at hg2
    exact ownsRow_setCell_other (ownsRow_setCell_other (ownsRow_setCell_other ht (by simpa using hne) _) (by simpa using hne) _) (by simpa using hne) _
  refine ⟨_, h3, fun j hj1 hj2 => ?_⟩
  simp only [List.getElem?_set, List.length_set]
  by_cases hji : j = i
  · subst hji
    refine ⟨?_, ?_, a, (firsts p j).length, c, ?_, fun _ => ⟨rfl, hrow hf⟩⟩
    · rw [if_neg (by omega), if_neg (by omega), if_pos rfl, if_pos (by omega)]
    · rw [if_neg (by omega), if_pos rfl, if_pos (by omega)]
    · rw [if_pos rfl, if_pos (by omega)]
  · obtain ⟨x0, x1, a', n, c', x2, r⟩ := hx j (by omega) hj2
    refine ⟨?_, ?_, a', n, c', ?_, fun h => ⟨(r h).1, hrow (r h).2⟩⟩
    · rw [if_neg (by omega), if_neg (by omega), if_neg (by omega)]; exact x0
    · rw [if_neg (by omega), if_neg (by omega), if_neg (by omega)]; exact x1
    · rw [if_neg (by omega), if_neg (by omega), if_neg (by omega)]; exact x2

theorem AllAt.cells {w : World} {B g gc lo : Nat} {p : List UInt8} (h : AllAt w B g gc p lo) (j : Nat) (hj : j ≤ p.length) :
    (∃ y, w.cell? ⟨g, j * 3, none⟩ = some y) ∧ (∃ y, w.cell? ⟨g, j * 3 + 1, none⟩ = some y) ∧ (∃ y, w.cell? ⟨g, j * 3 + 2, none⟩ = some y) ∧ w.frozen? ⟨g, j * 3, none⟩ = false ∧ w.frozen? ⟨g, j * 3 + 1, none⟩ = false ∧ w.frozen? ⟨g, j * 3 + 2, none⟩ = false := by
  obtain ⟨xs, hr, _⟩ := h
  have hlen : xs.length = (p.length + 1) * 3 := hr.1
  refine ⟨⟨xs[j * 3]'(by omega), ?_⟩, ⟨xs[j * 3 + 1]'(by omega), ?_⟩, ⟨xs[j * 3 + 2]'(by omega), ?_⟩, hr.frozenAt _, hr.frozenAt _, hr.frozenAt _⟩
  · rw [hr.cellAt (j * 3) (by omega)]; exact List.getElem?_eq_getElem (by omega)
  · rw [hr.cellAt (j * 3 + 1) (by omega)]; exact List.getElem?_eq_getElem (by omega)
  · rw [hr.cellAt (j * 3 + 2) (by omega)]; exact List.getElem?_eq_getElem (by omega)
theorem made3 (a b c : Value) (m j : Nat) (h : j < m) : (madeCells #[a, b, c] (m * 3))[j * 3]? = some a ∧ (madeCells #[a, b, c] (m * 3))[j * 3 + 1]? = some b ∧ (madeCells #[a, b, c] (m * 3))[j * 3 + 2]? = some c := by
  have e0 : j * 3 % 3 = 0 := by omega
  have e1 : (j * 3 + 1) % 3 = 1 := by omega
  have e2 : (j * 3 + 2) % 3 = 2 := by omega
  have l0 : j * 3 < m * 3 := by omega
  have l1 : j * 3 + 1 < m * 3 := by omega
  have l2 : j * 3 + 2 < m * 3 := by omega
  simp [madeCells, e0, e1, e2, l0, l1, l2]
theorem all_new (w : World) (p : List UInt8) (hp : p.length ≤ 64) : AllAt (w.alloc (.cells ((madeCells #[.int .i64 0, .int .i64 0, .slice none 0 0] ((p.length + 1) * 3)).setIfInBounds (p.length * 3 + 1) (.int .i64 1)) 157)) w.heap.size w.heap.size (p.length + 1) p p.length := by
  have hl := World.ownsRow_lit (e := 157) (size := 3) (base := w.heap.size) w ((madeCells #[.int .i64 0, .int .i64 0, .slice none 0 0] ((p.length + 1) * 3)).setIfInBounds (p.length * 3 + 1) (.int .i64 1)) (p.length + 1) (Nat.le_refl _) (by unfold maxLen; omega) (by simp [madeCells])
  have h4 : (net p).to p.length = Dp.one := (net p).to_end
  have h5 : toC p p.length = 0 := by unfold toC; rw [h4]; rfl
  have h6 : capW p p.length = 1 := by unfold capW; rw [h4]; rfl
  have hs := hl.1
  refine ⟨_, hl, fun j h1 h2 => ?_⟩
  have hj : j = p.length := by omega
  subst hj
  obtain ⟨m0, m1, m2⟩ := made3 (.int .i64 0) (.int .i64 0) (.slice none 0 0) (p.length + 1) p.length (by omega)
  rw [h5, h6]
  refine ⟨?_, ?_, none, 0, 0, ?_, fun h => by omega⟩
  · rw [Array.getElem?_toList, Array.getElem?_setIfInBounds, if_neg (by omega)]; exact m0
  · rw [Array.getElem?_toList, Array.getElem?_setIfInBounds, if_pos rfl, if_pos (by simp at hs; omega)]; rfl
  · rw [Array.getElem?_toList, Array.getElem?_setIfInBounds, if_neg (by omega)]; exact m2

set_option maxHeartbeats 2000000 in
theorem rests_calls (a : Option Addr) (p : List UInt8) (cap : Nat) (w : World) (hp : p.length ≤ 64) (hb : BytesAt w a p) :
    Calls Tryz.prog 103 #[.slice a p.length cap] w fun e w' => Below w.heap.size w w' ∧ ∃ g gc, e = .returned (.slice (some ⟨g, 0, none⟩) (p.length + 1) gc) ∧ AllAt w' w.heap.size g gc p 0 := by
  have HB : Hid (BytesAt w a p) := hb
  clear hb
  obtain ⟨i0, hi, hz0, hz1, hz2⟩ := info_parts infoRest
  have hmk : ∀ wx : World, (Instr.makeSlice 154 (.int .i64 ((p.length : Int) + 1)) (.int .i64 ((p.length : Int) + 1))).run Tryz.prog wx = .ok (.slice (some ⟨wx.heap.size, 0, none⟩) (p.length + 1) (p.length + 1)) (wx.alloc (.cells (madeCells #[.int .i64 0, .int .i64 0, .slice none 0 0] ((p.length + 1) * 3)) 157)) := fun wx => by
    have h := run_make (P := Tryz.prog) (w := wx) 154 157 i0 (.agg #[.int .i64 0, .int .i64 0, .slice none 0 0]) Tryz.underlying154 hi hz0 .i64 .i64 ((p.length : Int) + 1) ((p.length : Int) + 1) (by omega) (by omega) (by rw [hz2]; omega) (by omega)
    rw [hz1, show ((p.length : Int) + 1).toNat = p.length + 1 by omega] at h
    exact h
  go_enter Tryz.func103, Tryz.ntmps103
  have hpI : 0 ≤ (p.length : Int) ∧ (p.length : Int) < ((p.length + 1 : Nat) : Int) := by omega
  have hmc := (made3 (.int .i64 0) (.int .i64 0) (.slice none 0 0) (p.length + 1) p.length (by omega)).2.1
  have HA0 : Hid (AllAt (w.alloc (.cells ((madeCells #[.int .i64 0, .int .i64 0, .slice none 0 0] ((p.length + 1) * 3)).setIfInBounds (p.length * 3 + 1) (.int .i64 1)) 157)) w.heap.size w.heap.size (p.length + 1) p p.length) := all_new w p hp
  have HB0 : Hid (Below w.heap.size w (w.alloc (.cells ((madeCells #[.int .i64 0, .int .i64 0, .slice none 0 0] ((p.length + 1) * 3)).setIfInBounds (p.length * 3 + 1) (.int .i64 1)) 157))) := (Below.refl _ _).alloc (Nat.le_refl _) _
  go_wp2_with fail
  generalize (w.alloc (.cells ((madeCells #[.int .i64 0, .int .i64 0, .slice none 0 0] ((p.length + 1) * 3)).setIfInBounds (p.length * 3 + 1) (.int .i64 1)) 157)) = w1 at *
  clear hmk hmc
  go_loopg [4] p.length (fun gk iv wr => ∃ lo : Nat, lo ≤ p.length ∧ gk = lo ∧ iv = .int .i64 ((lo : Int) - 1) ∧ Hid (AllAt wr w.heap.size w.heap.size (p.length + 1) p lo) ∧ Hid (Below w.heap.size w wr))
  case atStart => exact ⟨p.length, Nat.le_refl _, rfl, rfl, HA0, HB0⟩
  case round =>
    clear HA0 HB0
    obtain ⟨lo, hlo, hg, rfl, HA, HW⟩ := hrel
    have HG : Hid (gk = lo) := hg
    clear hg
    have hsz := HW.out.size
    rcases lo with _ | i
    · have h0 : ¬ (0 : Int) ≤ ((0 : Nat) : Int) - 1 := by omega
      go_wp2
      go_ret
      exact ⟨HW.out, _, _, rfl, HA.out⟩
    · have HI : Hid (((i + 1 : Nat) : Int) - 1 = (i : Int)) := by show _ = _; omega
      rw [HI.out]
      have hi0 : (0 : Int) ≤ (i : Int) := by omega
      go_wp2_with fail
      refine (restAt_calls a p cap i w.heap.size (p.length + 1) wr hp (bytesAt_below2 HB.out HW.out) (by omega) HA.out.tab).mono ?_
      rintro e w2 ⟨hb2, v, rfl, hv⟩
      obtain ⟨fa, fc, rfl⟩ := TokRow.form hv
      have hs2 := hb2.size
      have HA2 : Hid (AllAt w2 w.heap.size w.heap.size (p.length + 1) p (i + 1)) := HA.out.below hb2
      have HW2 : Hid (Below w.heap.size w w2) := HW.out.trans (hb2.mono hsz)
      have HF2 : Hid (TokRow w2 w.heap.size (.slice fa (firsts p i).length fc) (firsts p i)) := row_less hv hsz
      have HA3 : Hid (AllAt ((((w2.setCell ⟨w.heap.size, i * 3, none⟩ (.int .i64 (toC p i))).setCell ⟨w.heap.size, i * 3 + 1, none⟩ (.int .i64 (capW p i))).setCell ⟨w.heap.size, i * 3 + 2, none⟩ (.slice fa (firsts p i).length fc)).alloc (.cells #[.int .i64 (toC p i), .int .i64 (capW p i), .slice fa (firsts p i).length fc] 157)) w.heap.size w.heap.size (p.length + 1) p i) := (HA2.out.next (by omega) HF2.out).below ((Below.refl _ _).alloc (Nat.le_refl _) _)
      have HW3 : Hid (Below w.heap.size w ((((w2.setCell ⟨w.heap.size, i * 3, none⟩ (.int .i64 (toC p i))).setCell ⟨w.heap.size, i * 3 + 1, none⟩ (.int .i64 (capW p i))).setCell ⟨w.heap.size, i * 3 + 2, none⟩ (.slice fa (firsts p i).length fc)).alloc (.cells #[.int .i64 (toC p i), .int .i64 (capW p i), .slice fa (firsts p i).length fc] 157))) := (((HW2.out.setCell (by simp) _).setCell (by simp) _).setCell (by simp) _).alloc (by rw [set_size, set_size, set_size]; omega) _
      obtain ⟨⟨y0, hy0⟩, ⟨y1, hy1⟩, ⟨y2, hy2⟩, hf0, hf1, hf2⟩ := (HA.out.below hb2).cells i (by omega)
      have hgl : w.heap.size < w2.heap.size := World.block_lt_of_cell? w2 _ hy0
      have hiI : 0 ≤ (i : Int) ∧ (i : Int) < ((p.length + 1 : Nat) : Int) := by omega
      clear hb2 hv HA HW HA2 HW2 HF2
      generalize toC p i = C at *
      generalize capW p i = W at *
      generalize (firsts p i).length = N at *
      go_wp2
      go_roundg i
      case measure => have := HG.out; omega
      case rel => exact ⟨i, by omega, rfl, by go_num, HA3, HW3⟩
end Go.Proofs.YtnpnaglgllcpfaaGreat

/- What Nth answers. -/
namespace Go.Proofs.YtnpnaglgllcpfaaGreat
set_option maxRecDepth 100000
open Go.RowKit

theorem AllAt.first {w : World} {B g gc lo j : Nat} {p : List UInt8} (h : AllAt w B g gc p lo) (h1 : lo ≤ j) (h2 : j < p.length) : ∃ a c, w.cell? ⟨g, j * 3 + 2, none⟩ = some (.slice a (firsts p j).length c) ∧ ToksAt w a (firsts p j) := by
  obtain ⟨xs, hr, hx⟩ := h
  obtain ⟨_, _, a, n, c, x2, r⟩ := hx j h1 (by omega)
  obtain ⟨rfl, ht⟩ := r h2
  exact ⟨a, c, by rw [hr.cellAt (j * 3 + 2) (by omega)]; exact x2, TokRow.toks ht⟩
theorem firsts_len (p : List UInt8) (i : Nat) (hp : p.length ≤ 64) (hi : i < p.length) : (firsts p i).length ≤ 2017 := by
  have h1 : (firsts p i).length ≤ (chs p i).length := List.length_filter_le _ _
  have h2 := chTo_len p i (p.length - i - 1)
  unfold chs at h1
  omega

set_option maxHeartbeats 2000000 in
theorem bpick_calls (p : List UInt8) (i k B g gc : Nat) (w : World) (hp : p.length ≤ 64) (hi : i < p.length) (hk : k ≤ 1000000000) (ha : AllAt w B g gc p 0) :
    Calls Tryz.prog 108 #[.slice (some ⟨g, 0, none⟩) (p.length + 1) gc, .int .i64 i, .int .i64 k] w fun e w' => Below w.heap.size w w' ∧ e = .returned (.tuple #[.agg #[.int .i64 (pickAt p i k).1.len, .int .i64 (pickAt p i k).1.dist, .int .i64 (pickAt p i k).1.byte], .int .i64 (pickAt p i k).2]) := by
  have HTAB : Hid (TabAt w g p 0) := ha.tab
  obtain ⟨fa, fc, c2, htk⟩ := ha.first (Nat.zero_le i) hi
  have HTK : Hid (ToksAt w fa (firsts p i)) := htk
  have hg : g < w.heap.size := World.block_lt_of_cell? w _ c2
  have hfl := firsts_len p i hp hi
  have HPK : Hid (pickAt p i k = pickL (fun t => capW p (i + t.len.toNat)) k 0 tokZ 0 (firsts p i)) := rfl
  generalize pickAt p i k = R at *
  have hin : ∀ t ∈ firsts p i, 1 ≤ t.len ∧ i + t.len.toNat ≤ p.length := fun t ht => (mem_firsts p i hi t ht).2.2
  generalize firsts p i = F at *
  have HIN : Hid _ := hin
  clear ha htk hin
  have hiI : 0 ≤ (i : Int) ∧ (i : Int) < ((p.length + 1 : Nat) : Int) := by omega
  go_enter Tryz.func108, Tryz.ntmps108
  go_wp2_with fail
  obtain ⟨hK1, hO1, hX1, hs1⟩ := rest_boxes (wr := w) (o1 := .cells #[.int .i64 0, .int .i64 0, .int .i64 0] 42) (o2 := .cells #[.int .i64 0, .int .i64 0, .int .i64 0] 42) (Below.refl _ _)
  have HK1 : Hid _ := hK1
  have HO1 : Hid _ := hO1
  have HX1 : Hid _ := hX1
  clear hK1 hO1 hX1 c2
  generalize (w.alloc (.cells #[.int .i64 0, .int .i64 0, .int .i64 0] 42)).alloc (.cells #[.int .i64 0, .int .i64 0, .int .i64 0] 42) = w1 at *
  generalize hq : w.heap.size + 1 = q at *
  have HFT : Hid (ToksAt w1 fa F) := ToksAt.below HTK.out (HK1.out)
  have HTB : Hid (TabAt w1 g p 0) := HTAB.out.same (HK1.out.block g hg)
  have HVQ : Hid (0 < F.length → ∀ b off, fa = some ⟨b, off, none⟩ → b ≠ q) := by
    intro h0 b off hb
    rcases HTK.out with h | ⟨b', off', h1, h2, _⟩
    · rw [h] at h0; simp at h0
    · rw [hb] at h1
      simp at h1
      omega
  clear HTK HTAB
  go_loopg [9, 10, 19] F.length (fun gk av nv iv wr => ∃ (j n ah : Nat) (pk : Tok), j ≤ F.length ∧ gk = F.length - j ∧ n ≤ 2000000000 ∧ ah ≤ 2000000000 ∧ av = .int .i64 ah ∧ nv = .int .i64 n ∧ iv = .int .i64 j ∧ Hid (OneKept w1 wr q) ∧ Hid (wr.heap[q]? = some (.cells #[.int .i64 pk.len, .int .i64 pk.dist, .int .i64 pk.byte] 42 (0, 0))) ∧ Hid (R = pickL (fun t => capW p (i + t.len.toNat)) k n pk ah (F.drop j)))
  case atStart => exact ⟨0, 0, 0, tokZ, by omega, rfl, by omega, by omega, rfl, rfl, rfl, OneKept.refl _ _, HX1, HPK⟩
  case round =>
    clear HX1 HPK
    obtain ⟨j, n, ah, pk, hj, hgk, hn, hah, rfl, rfl, rfl, HK, HX, HPK⟩ := hrel
    have HG : Hid (gk = F.length - j) := hgk
    have hsw := HK.out.size
    clear hgk
    have hor : w.heap.size < wr.heap.size := by omega
    have hoq : w.heap.size ≠ q := by omega
    have hqr : q < wr.heap.size := by omega
    have HO2 : Hid (wr.heap[w.heap.size]? = some (.cells #[.int .i64 0, .int .i64 0, .int .i64 0] 42 (0, 0))) := by show _ = _; rw [HK.out.heap _ (by omega) hoq]; exact HO1.out
    have HBL : Hid (Below w.heap.size w wr) := ⟨HK.out.os.trans HK1.out.os, HK.out.tape.trans HK1.out.tape, HK.out.output.trans HK1.out.output, by omega, fun k hk => (HK.out.heap k (by omega) (by omega)).trans (HK1.out.block k hk)⟩
    obtain ⟨⟨x0, x1, x2⟩, y0, y1, y2⟩ := trio_cell HX.out
    obtain ⟨⟨o0, o1, o2⟩, o3, o4, o5⟩ := trio_cell HO2.out
    obtain ⟨pl, pd, pb⟩ := pk
    simp only at x0 x1 x2
    by_cases hlt : j < F.length
    · obtain ⟨vb, voff, hva, hvl, hcell⟩ : ∃ b off, fa = some ⟨b, off, none⟩ ∧ b < w1.heap.size ∧ ∀ i' (hi : i' < F.length),
          w1.cell? ⟨b, off + i' * 3, none⟩ = some (.int .i64 F[i'].len) ∧ w1.cell? ⟨b, off + i' * 3 + 1, none⟩ = some (.int .i64 F[i'].dist) ∧ w1.cell? ⟨b, off + i' * 3 + 2, none⟩ = some (.int .i64 F[i'].byte) := by
        rcases HFT.out with h | h
        · rw [h] at hlt; simp at hlt
        · exact h
      subst hva
      have hvq : vb ≠ q := HVQ.out (by omega) vb voff rfl
      have hkb : wr.heap[vb]? = w1.heap[vb]? := HK.out.heap vb hvl hvq
      obtain ⟨c0, c1, c2⟩ := hcell j hlt
      rw [← World.cell?_of_block (a := ⟨vb, voff + j * 3, none⟩) hkb] at c0
      rw [← World.cell?_of_block (a := ⟨vb, voff + j * 3 + 1, none⟩) hkb] at c1
      rw [← World.cell?_of_block (a := ⟨vb, voff + j * 3 + 2, none⟩) hkb] at c2
      have hvr : vb < wr.heap.size := by omega
      obtain ⟨hl1, hip⟩ := HIN.out F[j] (List.getElem_mem hlt)
      have HD : Hid (F.drop j = F[j] :: F.drop (j + 1)) := List.drop_eq_getElem_cons hlt
      clear hcell hkb
      generalize F[j] = t at *
      obtain ⟨tl, td, tb⟩ := t
      simp only at c0 c1 c2 hl1 hip
      obtain ⟨T, rfl⟩ : ∃ T : Nat, tl = (T : Int) := ⟨tl.toNat, by omega⟩
      rw [Int.toNat_natCast] at hip
      by_cases hnk : k < n
      · have hnk' : (k : Int) < (n : Int) := by omega
        have HR : Hid (R = (⟨pl, pd, pb⟩, ah)) := by show _ = _; rw [HPK.out, pickL_stop _ _ _ _ _ _ hnk]
        go_wp2
        obtain ⟨⟨r0, r1, r2⟩, _⟩ := trio_cell (rest_set3 HO2.out (.int .i64 pl) (.int .i64 pd) (.int .i64 pb))
        have s0 := fun o : Obj => cell_kept ((Below.refl _ _).alloc (Nat.le_refl _) o) r0
        have s1 := fun o : Obj => cell_kept ((Below.refl _ _).alloc (Nat.le_refl _) o) r1
        have s2 := fun o : Obj => cell_kept ((Below.refl _ _).alloc (Nat.le_refl _) o) r2
        refine bodyPost_ret (v := .tuple #[.agg #[.int .i64 pl, .int .i64 pd, .int .i64 pb], .int .i64 ah]) (by simp [results, Tryz.results108, go_sem, s0, s1, s2]) rfl ?_
        rw [HR.out]
        exact ⟨(((HBL.out.setCell (by simp) _).setCell (by simp) _).setCell (by simp) _).alloc (by rw [set_size, set_size, set_size]; omega) _, rfl⟩
      · have hnk' : ¬ (k : Int) < (n : Int) := by omega
        have hcw := capW_le p (i + T)
        have HP2 : Hid (R = pickL (fun t => capW p (i + t.len.toNat)) k (n + capW p (i + T)) ⟨(T : Int), td, tb⟩ n (F.drop (j + 1))) := by
          show _ = _
          rw [HPK.out, HD.out]
          show (if k < n then _ else _) = _
          rw [if_neg hnk]
          rfl
        obtain ⟨_, d1, _⟩ := (HTB.out.same (w' := wr) (HK.out.heap g (by omega) (by omega))) (i + T) (by omega) hip
        have hgr : g < wr.heap.size := by omega
        have hgq : g ≠ q := by omega
        have hix : 0 ≤ (i : Int) + (T : Int) ∧ (i : Int) + (T : Int) < ((p.length + 1 : Nat) : Int) := by omega
        generalize capW p (i + T) = W at *
        have HK3 : Hid (OneKept w1 ((((wr.setCell ⟨q, 0, none⟩ (.int .i64 T)).setCell ⟨q, 1, none⟩ (.int .i64 td)).setCell ⟨q, 2, none⟩ (.int .i64 tb)).alloc (.cells #[.int .i64 T, .int .i64 td, .int .i64 tb] 42)) q) := (((HK.out.set _).set _).set _).alloc _
        have HX3 : Hid (((((wr.setCell ⟨q, 0, none⟩ (.int .i64 T)).setCell ⟨q, 1, none⟩ (.int .i64 td)).setCell ⟨q, 2, none⟩ (.int .i64 tb)).alloc (.cells #[.int .i64 T, .int .i64 td, .int .i64 tb] 42)).heap[q]? = some (.cells #[.int .i64 T, .int .i64 td, .int .i64 tb] 42 (0, 0))) := by
          show _ = _
          rw [Below.heap_alloc _ _ q (by rw [set_size, set_size, set_size]; omega)]
          exact rest_set3 HX.out _ _ _
        go_wp2
        go_roundg (F.length - (j + 1))
        case measure => have := HG.out; omega
        case rel => exact ⟨j + 1, n + W, n, ⟨(T : Int), td, tb⟩, by omega, rfl, by omega, by omega, rfl, by go_num, by go_num, HK3, HX3, HP2⟩
    · have HR : Hid (R = (⟨pl, pd, pb⟩, ah)) := by
        have := HPK.out
        rw [List.drop_eq_nil_of_le (by omega)] at this
        exact this
      go_wp2
      obtain ⟨⟨r0, r1, r2⟩, _⟩ := trio_cell (rest_set3 HO2.out (.int .i64 pl) (.int .i64 pd) (.int .i64 pb))
      refine bodyPost_ret (v := .tuple #[.agg #[.int .i64 pl, .int .i64 pd, .int .i64 pb], .int .i64 ah]) (by simp [results, Tryz.results108, go_sem, r0, r1, r2]) rfl ?_
      rw [HR.out]
      exact ⟨((HBL.out.setCell (by simp) _).setCell (by simp) _).setCell (by simp) _, rfl⟩

theorem nth_append {w w2 w3 : World} {v : Value} {acc : List Tok} {o1 o2 : Obj} (hrow : TokRow w2 w.heap.size v acc) (hb : Below w.heap.size w w2) (hg : ((w2.alloc o1).alloc o2).grownBy w3 v.ownBlock) : Below w.heap.size w w3 ∧ w3.heap[w2.heap.size]? = some o1 ∧ w2.heap.size < w3.heap.size := by
  have hs := hb.size
  have hz : ((w2.alloc o1).alloc o2).heap.size = w2.heap.size + 2 := by simp
  have hsz := hg.size
  have hown := fun k hk' => World.ownsRow.lt hrow k hk'
  have hrow' : TokRow ((w2.alloc o1).alloc o2) w.heap.size v acc := TokRow.alloc (TokRow.alloc hrow o1) o2
  refine ⟨((hb.alloc hs o1).alloc (by simp; omega) o2).grown hg (by omega) (fun k hk => (World.ownsRow.lt hrow' k hk).1), ?_, by omega⟩
  rw [hg.block _ (by omega) (fun e => by have := (hown _ e.symm).2; omega), Below.heap_alloc (w2.alloc o1) o2 _ (by simp)]
  exact heap_alloc_new w2 o1

set_option maxHeartbeats 2000000 in
theorem bestNth_calls (a : Option Addr) (p : List UInt8) (cap : Nat) (k : Int) (w : World) (hp : p.length ≤ 64) (hb : BytesAt w a p) :
    Calls Tryz.prog 87 #[.slice a p.length cap, .int .i64 k] w fun e w' => Below w.heap.size w w' ∧ (((k < 0 ∨ (capW p 0 : Int) ≤ k) ∧ e = .returned (.tuple #[.slice none 0 0, .bool false])) ∨
      (0 ≤ k ∧ k < (capW p 0 : Int) ∧ ∃ v, e = .returned (.tuple #[v, .bool true]) ∧ TokRow w' w.heap.size v (nthOf p k))) := by
  have HB : Hid (BytesAt w a p) := hb
  clear hb
  obtain ⟨it, hti, htz0, htz1, htz2⟩ := info_parts infoTok
  go_enter Tryz.func87, Tryz.ntmps87
  go_wp2_with fail
  refine (rests_calls a p cap w hp HB.out).mono ?_
  rintro e w1 ⟨hb1, g, gc, rfl, ha⟩
  obtain ⟨_, c1, _⟩ := ha.tab 0 (Nat.le_refl _) (by omega)
  have HB1 : Hid (Below w.heap.size w w1) := hb1
  have HA : Hid (AllAt w1 w.heap.size g gc p 0) := ha
  have hcw := capW_le p 0
  simp only [Nat.zero_mul, Nat.zero_add] at c1
  have hiI : 0 ≤ (0 : Int) ∧ (0 : Int) < ((p.length + 1 : Nat) : Int) := by omega
  clear hb1 ha
  generalize hC : capW p 0 = C at *
  have HC : Hid (capW p 0 = C) := hC
  clear hC
  by_cases hk0 : k < 0
  · go_wp2
    go_ret2
    exact ⟨HB1.out, .inl ⟨.inl hk0, rfl⟩⟩
  · by_cases hkc : (C : Int) ≤ k
    · go_wp2
      go_ret2
      exact ⟨HB1.out, .inl ⟨.inr (by rw [HC.out]; exact hkc), rfl⟩⟩
    · obtain ⟨K, rfl⟩ : ∃ K : Nat, k = (K : Int) := ⟨k.toNat, by omega⟩
      have hKC : K < C := by omega
      clear hk0
      go_wp2_with fail
      clear c1
      have HN0 : Hid (nthOf p (K : Int) = nthGo p p.length 0 K) := by show _ = _; unfold nthOf; rw [Int.toNat_natCast]
      have HKC : Hid (K < capW p 0) := by show _ < _; rw [HC.out]; exact hKC
      go_loopg [1, 7, 8] p.length (fun gk kv v atv wr => ∃ (i K' f : Nat) (acc : List Tok), i ≤ p.length ∧ gk = p.length - i ∧ K' ≤ 1000000000 ∧ kv = .int .i64 K' ∧ atv = .int .i64 i ∧ acc.length ≤ i ∧ p.length - i ≤ f ∧ Hid (K' < capW p i) ∧ Hid (nthOf p (K : Int) = acc ++ nthGo p f i K') ∧ Hid (TokRow wr w1.heap.size v acc) ∧ Hid (Below w1.heap.size w1 wr))
      case atStart => exact ⟨0, K, p.length, [], by omega, rfl, by omega, rfl, rfl, by simp, by omega, HKC, HN0, World.ownsRow_nil _ _ _ _, Below.refl _ _⟩
      case round =>
        clear HN0 HKC
        obtain ⟨i, K', f, acc, hi, hgk, hK', rfl, rfl, hal, hf, HKI, HN, HROW, HW⟩ := hrel
        have HG : Hid (gk = p.length - i) := hgk
        clear hgk
        obtain ⟨ao, cp, rfl⟩ := TokRow.form HROW.out
        have hsz := HW.out.size
        by_cases hlt : i < p.length
        · obtain ⟨A, x, B, e1, e2, h3, h4⟩ := pickAt_is p i K' hlt HKI.out
          obtain ⟨_, _, m3, m4⟩ := mem_firsts p i hlt x (by rw [e1]; simp)
          obtain ⟨f, rfl⟩ : ∃ f', f = f' + 1 := ⟨f - 1, by omega⟩
          have HPK : Hid (Calls Tryz.prog 108 #[.slice (some ⟨g, 0, none⟩) (p.length + 1) gc, .int .i64 i, .int .i64 K'] wr fun e w' => Below wr.heap.size wr w' ∧ e = .returned (.tuple #[.agg #[.int .i64 x.len, .int .i64 x.dist, .int .i64 x.byte], .int .i64 ((A.map fun t => capW p (i + t.len.toNat)).sum : Nat)])) := by
            have := bpick_calls p i K' w.heap.size g gc wr hp hlt hK' (HA.out.below HW.out)
            rw [e2] at this
            exact this
          have HN2 : Hid (nthOf p (K : Int) = (acc ++ [x]) ++ nthGo p f (i + x.len.toNat) (K' - (A.map fun t => capW p (i + t.len.toNat)).sum)) := by
            show _ = _
            rw [HN.out]
            simp only [nthGo, if_pos hlt, e2]
            simp
          have HKI2 : Hid (K' - (A.map fun t => capW p (i + t.len.toNat)).sum < capW p (i + x.len.toNat)) := by show _ < _; omega
          generalize (A.map fun t => capW p (i + t.len.toNat)).sum = S at *
          clear e1 e2 h4
          obtain ⟨tl, td, tb⟩ := x
          simp only at m3 m4
          obtain ⟨T, rfl⟩ : ∃ T : Nat, tl = (T : Int) := ⟨tl.toNat, by omega⟩
          rw [Int.toNat_natCast] at m4
          go_wp2_with fail
          refine (Calls.mono HPK.out ?_)
          rintro e w2 ⟨hb2, rfl⟩
          have HW2 : Hid (Below w1.heap.size w1 w2) := HW.out.trans (hb2.mono hsz)
          have HROW2 : Hid (TokRow w2 w1.heap.size (.slice ao acc.length cp) acc) := TokRow.below HROW.out hb2
          have hs2 := hb2.size
          clear hb2 HPK
          go_wp2_with (at_builtin; refine wpList_append_own _ rfl _ _ 32 rfl w1.heap.size 42 it (.agg #[.int .i64 0, .int .i64 0, .int .i64 0]) 3 24 Tryz.underlying32 hti htz0 htz1 htz2 rfl (by decide) _ _ _ rfl ((TokRow.alloc HROW2.out _).alloc _) ⟨w2.heap.size + 1, 0, none⟩ 1 1 [.int .i64 T, .int .i64 td, .int .i64 tb] rfl rfl ?b1 ?b2 ?b3 ?b4 ?b5 ?_)
          case b1 => intro j u hj; exact cell_new3' _ _ (by simp) _ _ _ _ j u hj
          case b2 => intro u hu; simp at hu; rcases hu with rfl | rfl | rfl <;> rfl
          case b3 => unfold maxLen; omega
          case b4 => omega
          case b5 => first | omega | (simp; omega)
          intro v' w3 hown' hgrow _
          obtain ⟨hk3, hx3, hz3⟩ := nth_append HROW2.out HW2.out hgrow
          have HW3 : Hid (Below w1.heap.size w1 w3) := hk3
          have HROW3 : Hid (TokRow w3 w1.heap.size v' (acc ++ [⟨(T : Int), td, tb⟩])) := by
            show w3.ownsRow _ _ _ _ _ _
            rw [cellsT_snoc, List.length_append]
            exact hown'
          obtain ⟨⟨b0, b1, b2⟩, _⟩ := trio_cell hx3
          clear hown' hgrow hk3 hx3
          go_wp2
          go_roundg (p.length - (i + T))
          case measure => have := HG.out; omega
          case rel => exact ⟨i + T, K' - S, f, acc ++ [⟨(T : Int), td, tb⟩], by omega, rfl, by omega, by go_num, by go_num, by simp; omega, by omega, HKI2, HN2, HROW3, HW3⟩
        · have hie : i = p.length := by omega
          have HNE : Hid (nthOf p (K : Int) = acc) := by
            show _ = _
            rw [HN.out]
            cases f with
            | zero => simp [nthGo]
            | succ f => simp [nthGo, hlt]
          go_wp2
          go_ret2
          exact ⟨HB1.out.trans (HW.out.mono HB1.out.size), .inr ⟨by omega, by rw [HC.out]; omega, _, rfl, by rw [HNE.out]; exact row_less HROW.out HB1.out.size⟩⟩
set_option maxHeartbeats 1000000 in
theorem nth_said : NthSaid nthOf := by
  intro a p cap k w hl hb
  have HB : Hid (BytesAt w a p) := hb
  clear hb
  go_enter Tryz.func56, Tryz.ntmps56
  by_cases h64 : 64 < p.length
  · have h1 : (64 : Int) < (p.length : Int) := by omega
    go_wp2
    go_ret2
    exact ⟨Below.refl _ _, _, [], _, rfl, World.ownsRow_nil _ _ _ _, .inl ⟨h64, rfl, rfl⟩, fun h => by cases h⟩
  · have h1 : ¬ (64 : Int) < (p.length : Int) := by omega
    have hp : p.length ≤ 64 := by omega
    have HL : Hid (cap9 (leastW p) = (capW p 0 : Int)) := leastW_is p
    go_wp2_with fail
    refine (bestNth_calls a p cap k w hp HB.out).mono ?_
    rintro e w1 ⟨hb1, ⟨hk, rfl⟩ | ⟨hk0, hk1, v, rfl, hrow⟩⟩
    · have HB1 : Hid (Below w.heap.size w w1) := hb1
      clear hb1
      have HKK : Hid _ := hk
      clear hk
      go_wp2
      go_ret2
      exact ⟨HB1.out, _, [], _, rfl, World.ownsRow_nil _ _ _ _, .inr (.inl ⟨hp, by rw [HL.out]; exact HKK.out, rfl, rfl⟩), fun h => by cases h⟩
    · have HB1 : Hid (Below w.heap.size w w1) := hb1
      have HROW : Hid _ := hrow
      obtain ⟨ao, cp, rfl⟩ := TokRow.form hrow
      have HKK : Hid _ := hk1
      have HON : Hid _ := nthOf_is p k hp hk0 hk1
      clear hb1 hrow hk1
      go_wp2
      go_ret2
      exact ⟨HB1.out, _, nthOf p k, _, rfl, HROW.out, .inr (.inr ⟨hp, hk0, by rw [HL.out]; exact HKK.out, rfl, HON.out.1, HON.out.2⟩), fun _ => rfl⟩
end Go.Proofs.YtnpnaglgllcpfaaGreat

/- What Parse answers. -/
namespace Go.Proofs.YtnpnaglgllcpfaaGreat
set_option maxRecDepth 100000
open Go.RowKit

set_option maxHeartbeats 1000000 in
theorem parse_said : ParseSaid parseOf := by
  intro a p cap w hl hb
  have HB : Hid (BytesAt w a p) := hb
  clear hb
  go_enter Tryz.func52, Tryz.ntmps52
  go_wp2_with fail
  refine (nth_said a p cap 0 w hl HB.out).mono ?_
  rintro e w1 ⟨hb1, v, ts, c, rfl, hrow, hnum, heq⟩
  obtain ⟨ao, cp, rfl⟩ := TokRow.form hrow
  have HB1 : Hid (Below w.heap.size w w1) := hb1
  have HROW : Hid _ := hrow
  have HANS : Hid ((64 < p.length ∧ c = 1 ∧ ts = []) ∨ (p.length ≤ 64 ∧ c = 0 ∧ ts = parseOf p)) := by
    rcases hnum with ⟨h1, h2, h3⟩ | ⟨h1, h2, _, _⟩ | ⟨h1, _, _, h4, _, _⟩
    · exact .inl ⟨h1, h2, h3⟩
    · have := capW_pos p 0 (by omega)
      rw [leastW_is] at h2
      omega
    · exact .inr ⟨h1, h4, heq h4⟩
  clear hb1 hrow hnum heq
  go_wp2
  go_ret2
  refine ⟨HB1.out, ?_⟩
  rcases HANS.out with ⟨h1, rfl, rfl⟩ | ⟨h1, rfl, rfl⟩
  · exact .inl ⟨h1, _, _, rfl⟩
  · exact .inr ⟨h1, _, rfl, HROW.out⟩
end Go.Proofs.YtnpnaglgllcpfaaGreat

/- What Compress answers. -/
namespace Go.Proofs.YtnpnaglgllcpfaaGreat
set_option maxRecDepth 100000
open Go.RowKit

theorem parse_facts (p : List UInt8) (hp : p.length ≤ 64) : made (parseOf p) = p ∧ (parseOf p).length ≤ 64 ∧ ∀ t ∈ parseOf p, Tok.plainB t ∧ Tok.cost t ≤ 31 := by
  obtain ⟨h1, h2, _⟩ := chosen_made parse_chosen p hp
  obtain ⟨out, g1, _, g3, g4, g5⟩ := ok_facts (Tok.okB_some h1)
  exact ⟨h2, by omega, g5⟩
set_option maxHeartbeats 1000000 in
theorem writePiece_calls (q B : Nat) (v : Value) (L : List Bool) (pa : Option Addr) (piece : List UInt8) (pcap : Nat) (w : World) (h : WrAt w q B v L) (hB : B ≤ w.heap.size) (hl : L.length ≤ 6000000) (hfull : L.length % 8 = 0) (hpc : piece.length ≤ 64)
    (hpa : BytesAt w pa piece) (hpne : ∀ b off, pa = some ⟨b, off, none⟩ → b < w.heap.size ∧ b ≠ q ∧ v.ownBlock ≠ some b) :
    Calls Tryz.prog 83 #[.pointer (some ⟨q, 0, none⟩), .slice pa piece.length pcap] w fun e w' => e = .returned (.tuple #[]) ∧ WrDone w w' q B v (L ++ frameBits (parseOf piece) piece) := by
  have HW : Hid (WrAt w q B v L) := h
  have HPA : Hid (BytesAt w pa piece) := hpa
  have HPNE : Hid (∀ b off, pa = some ⟨b, off, none⟩ → b < w.heap.size ∧ b ≠ q ∧ v.ownBlock ≠ some b) := hpne
  have hq := h.lt
  have HOL : Hid (∀ k, v.ownBlock = some k → k < w.heap.size) := h.ownlt
  clear h hpa hpne
  go_enter Tryz.func83, Tryz.ntmps83
  go_wp2_with fail
  refine (parse_said pa piece pcap w (by omega) HPA.out).mono ?_
  rintro e w1 ⟨hb1, ⟨h64, _⟩ | ⟨_, tv, rfl, hrow⟩⟩
  · omega
  obtain ⟨ta, tc, rfl⟩ := TokRow.form hrow
  obtain ⟨f1, f2, f3⟩ := parse_facts piece hpc
  have HF3 : Hid _ := f3
  have hs1 := hb1.size
  have HB1 : Hid (Below w.heap.size w w1) := hb1
  have HT : Hid (ToksAt w1 ta (parseOf piece)) := TokRow.toks hrow
  have HNE : Hid (∀ b off, ta = some ⟨b, off, none⟩ → b < w1.heap.size ∧ b ≠ q ∧ v.ownBlock ≠ some b) := fun b off e => by
    have hx := World.ownsRow.lt hrow
    rcases hrow.2 with ⟨h1, _⟩ | ⟨g, cap, cur, h1, hg, _⟩
    · simp at h1
      rw [h1.1] at e
      cases e
    · simp at h1
      rw [h1.1] at e
      simp at e
      have h2 := hx g (by simp [Value.ownBlock, h1.1])
      refine ⟨by omega, by omega, fun e' => ?_⟩
      have := HOL.out b e'
      omega
  have HPNE1 : Hid (∀ b off, pa = some ⟨b, off, none⟩ → b < w1.heap.size ∧ b ≠ q ∧ v.ownBlock ≠ some b) := fun b off e => by
    have := HPNE.out b off e
    exact ⟨by omega, this.2⟩
  have HW1 : Hid (WrAt w1 q B v L) := WrAt.below HW.out hb1
  clear hb1 hrow f1 f3
  generalize hts : parseOf piece = ts at *
  have HTS : Hid (parseOf piece = ts) := hts
  clear hts
  go_wp2_with fail
  refine (writeFrame_calls q B v L pa ta piece ts pcap tc w1 HW1.out (by omega) hl hfull f2 hpc (bytesAt_below2 HPA.out HB1.out) HPNE1.out HT.out HNE.out HF3.out).mono ?_
  rintro e w2 ⟨rfl, v2, hw2, hk2⟩
  have HD : Hid (WrDone w w2 q B v (L ++ frameBits (parseOf piece) piece)) := ⟨v2, by rw [HTS.out]; exact hw2, (WrKept.ofBelow HB1.out).trans hk2⟩
  clear hw2 hk2
  go_wp2
  go_end0
  exact ⟨rfl, HD.out⟩
set_option maxHeartbeats 2000000 in
theorem compress_said : CompressSaid parseOf := by
  intro a data cap w hl hcap hb
  have HB : Hid (BytesAt w a data) := hb
  clear hb
  go_enter Tryz.func58, Tryz.ntmps58
  by_cases hlong : 2048 < data.length
  · have h1 : (2048 : Int) < (data.length : Int) := by omega
    go_wp2
    go_ret2
    exact ⟨Below.refl _ _, .inl ⟨hlong, _, _, rfl⟩⟩
  · have h1 : ¬ (2048 : Int) < (data.length : Int) := by omega
    have hd : data.length ≤ 2048 := by omega
    have hn1 : 64 * cutN data ≤ data.length + 63 := by unfold cutN; omega
    have hn2 : data.length ≤ 64 * cutN data := by unfold cutN; omega
    have HCN : Hid ((toksOf parseOf data).length = cutN data) := toksOf_length _ _
    clear hlong
    go_wp2_with fail
    refine (writeBegin_calls w.heap.size w.heap.size (.slice none 0 0) _ (wr_new w) (by simp)).mono ?_
    rintro e w1 ⟨rfl, v1, hw1, hk1⟩
    have HB1 : Hid (Below w.heap.size w w1) := ((Below.refl _ _).alloc (Nat.le_refl _) _).trans (hk1.below (Nat.le_refl _) (by simp) (fun k h => by simp [Value.ownBlock] at h))
    have HW1 : Hid (WrAt w1 w.heap.size w.heap.size v1 magicBits) := hw1
    clear hw1 hk1
    go_wp2_with fail
    generalize hNN : cutN data = N at *
    have HNN : Hid (cutN data = N) := hNN
    clear hNN
    go_loopg [5] N (fun g iv wr => ∃ (k K : Nat) (v' : Value), k ≤ N ∧ g = N - k ∧ K = 64 * k ∧ iv = .int .i64 K ∧ Hid (WrAt wr w.heap.size w.heap.size v' (magicBits ++ frames (toksOf parseOf data) k)) ∧ Hid (Below w.heap.size w wr))
    case atStart => exact ⟨0, 0, v1, by omega, rfl, rfl, rfl, by show WrAt _ _ _ _ _; simpa [frames] using HW1.out, HB1⟩
    case round =>
      clear HW1 HB1
      obtain ⟨k, K, v', hk, hg, hK, rfl, HW, HBW⟩ := hrel
      have HG : Hid (gk = N - k) := hg
      have hs := HBW.out.size
      have hfs := frames_chosen parse_chosen data k (by rw [HCN.out]; exact hk)
      have HFL : Hid ((magicBits ++ frames (toksOf parseOf data) k).length % 8 = 0) := by show _ = _; rw [List.length_append, magic_length]; have := frames_full (toksOf parseOf data) k; omega
      have HOB : Hid (∀ k, v'.ownBlock = some k → w.heap.size ≤ k) := fun k h => (World.ownsRow.lt HW.out.own k h).1
      clear hg
      by_cases hlt : k < N
      · obtain ⟨b, off, ha, hbl, hcell⟩ : ∃ b off, a = some ⟨b, off, none⟩ ∧ b < w.heap.size ∧ ∀ j, j < data.length → wr.cell? ⟨b, off + j, none⟩ = some (.int .u8 (data.getD j 0).toNat) := by
          rcases HB.out with h | ⟨b, off, h1, h2⟩
          · exfalso
            rw [h] at hn1
            simp at hn1
            omega
          · have hbl : b < w.heap.size := World.block_lt_of_cell? w _ (h2 0 (by omega))
            exact ⟨b, off, h1, hbl, fun j hj => by rw [HBW.out.cell (p := ⟨b, _, none⟩) hbl]; exact h2 j hj⟩
        subst ha
        have HPT : Hid (BytesAt wr (some ⟨b, off + K, none⟩) (pieceAt data k)) := by rw [hK]; exact BytesAt.part hcell (64 * k) 64
        have hpl := pieceAt_length data k
        have hple := piece_le data k
        have HFS : Hid (frames (toksOf parseOf data) (k + 1) = frames (toksOf parseOf data) k ++ frameBits (parseOf (pieceAt data k)) (pieceAt data k)) := by
          show _ = _
          rw [frames_succ _ k (by rw [HCN.out]; exact hlt), toksOf_getD parseOf data k (by rw [HNN.out]; exact hlt), (parse_facts _ hple).1]
        have HWP : Hid (∀ pcap, Calls Tryz.prog 83 #[.pointer (some ⟨w.heap.size, 0, none⟩), .slice (some ⟨b, off + K, none⟩) (pieceAt data k).length pcap] wr fun e w' => e = .returned (.tuple #[]) ∧ WrDone wr w' w.heap.size w.heap.size v' (magicBits ++ frames (toksOf parseOf data) (k + 1))) := fun pcap => by
          have := writePiece_calls w.heap.size w.heap.size v' (magicBits ++ frames (toksOf parseOf data) k) (some ⟨b, off + K, none⟩) (pieceAt data k) pcap wr HW.out hs (by rw [List.length_append, magic_length]; omega) HFL.out hple HPT.out (fun b' off' e => by
            simp at e
            refine ⟨by omega, by omega, fun h => ?_⟩
            have := HOB.out b' h
            omega)
          rw [List.append_assoc, ← HFS.out] at this
          exact this
        have hKd : (K : Int) < (data.length : Int) := by omega
        clear hcell
        by_cases hto : data.length < K + 64
        · have hto' : (data.length : Int) < (K : Int) + 64 := by omega
          have hTK : (pieceAt data k).length = data.length - K := by omega
          rw [hTK] at HWP
          have hb1 : (0 : Int) ≤ (K : Int) ∧ (K : Int) ≤ (data.length : Int) ∧ (data.length : Int) ≤ (cap : Int) := by omega
          have hb2 : ¬ (cap : Int) < (data.length : Int) := by omega
          have hb3 : ¬ (data.length : Int) < (K : Int) := by omega
          have hcK : ¬ cap = K := by omega
          have HKK : Hid (K = 64 * k) := hK
          clear hK hTK hpl
          go_wp2_with fail
          refine (HWP.out _).mono ?_
          rintro e w4 ⟨rfl, v4, hw4, hk4⟩
          have HB4 : Hid (Below w.heap.size w w4) := HBW.out.trans (hk4.below (Nat.le_refl _) hs HOB.out)
          have HW4 : Hid _ := hw4
          clear hw4 hk4 HWP
          go_wp2
          go_roundg (N - (k + 1))
          case measure => have := HG.out; omega
          case rel => exact ⟨k + 1, K + 64, v4, by omega, rfl, by have := HKK.out; omega, by go_num, HW4, HB4⟩
        · have hto' : ¬ (data.length : Int) < (K : Int) + 64 := by omega
          have hTK : (pieceAt data k).length = 64 := by omega
          rw [hTK] at HWP
          have hb1 : (0 : Int) ≤ (K : Int) ∧ (K : Int) ≤ (K : Int) + 64 ∧ (K : Int) + 64 ≤ (cap : Int) := by omega
          have hb2 : ¬ (cap : Int) < (K : Int) + 64 := by omega
          have hb3 : ¬ (K : Int) + 64 < (K : Int) := by omega
          have hcK : ¬ cap = K := by omega
          have HKK : Hid (K = 64 * k) := hK
          clear hK hTK hpl
          go_wp2_with fail
          refine (HWP.out _).mono ?_
          rintro e w4 ⟨rfl, v4, hw4, hk4⟩
          have HB4 : Hid (Below w.heap.size w w4) := HBW.out.trans (hk4.below (Nat.le_refl _) hs HOB.out)
          have HW4 : Hid _ := hw4
          clear hw4 hk4 HWP
          go_wp2
          go_roundg (N - (k + 1))
          case measure => have := HG.out; omega
          case rel => exact ⟨k + 1, K + 64, v4, by omega, rfl, by have := HKK.out; omega, by go_num, HW4, HB4⟩
      · have hKd : ¬ (K : Int) < (data.length : Int) := by omega
        have hke : k = N := by omega
        go_wp2_with fail
        refine (writeEnd_calls w.heap.size w.heap.size v' _ _ HW.out hs (by rw [List.length_append, magic_length]; omega) HFL.out).mono ?_
        rintro e w4 ⟨rfl, v4, hw4, hk4⟩
        have HB4 : Hid (Below w.heap.size w w4) := HBW.out.trans (hk4.below (Nat.le_refl _) hs HOB.out)
        have HW4 : Hid (WrAt w4 w.heap.size w.heap.size v4 (magicBits ++ frames (toksOf parseOf data) k ++ endBits)) := hw4
        clear hw4 hk4
        go_wp2_with fail
        refine (bytes_calls _ _ _ _ _ HW4.out).mono ?_
        rintro e w5 ⟨rfl, rfl⟩
        go_wp2
        go_ret2
        refine ⟨HB4.out, .inr ⟨hd, v4, rfl, ?_⟩⟩
        unfold streamOf streamBits
        rw [HCN.out, ← hke]
        exact HW4.out.own
end Go.Proofs.YtnpnaglgllcpfaaGreat
