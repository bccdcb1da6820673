/-
  Lemmas for the law All: Be2, Be3.
-/
import Derived.Test.YtnpnaglgllcpfaaGreatM18
import Derived.BigRegion
import Derived.Laws.OwnMore
import Derived.OneCell
/- The tokens that may stand at a place, in their order: best.choices. -/
namespace Go.Proofs.YtnpnaglgllcpfaaGreat
set_option maxRecDepth 100000
open Go.RowKit

/-- A block that a growing row of another type leaves as it is. -/
theorem block_grown {w w' : World} {q B n z : Nat} {e t : TypeId} {v : Value} {xs : List Value} {cs : Array Value} {m : Nat × Nat} (hx : w.heap[q]? = some (.cells cs t m)) (ho : w.ownsRow B e z v n xs) (hne : e ≠ t) (hg : w.grownBy w' v.ownBlock) : w'.heap[q]? = some (.cells cs t m) := by
  rw [hg.block q (Array.getElem?_eq_some_iff.1 hx).1 ?_]
  · exact hx
  · intro e'
    rcases ho.2 with ⟨rfl, _⟩ | ⟨g, cap, cur, rfl, _, hg', _⟩
    · simp [Value.ownBlock] at e'
    · simp [Value.ownBlock] at e'
      subst e'
      rw [hx] at hg'
      simp at hg'
      exact hne hg'.2.1.symm
/-- How far the copies from the distances 1 to D go lies in memory. -/
def ReachAt (w : World) (q : Nat) (p : List UInt8) (i D : Nat) : Prop :=
  ∃ cs : Array Value, w.heap[q]? = some (.cells cs 183 (0, 0)) ∧ cs.size = 33 ∧ ∀ d, 1 ≤ d → d ≤ D → cs[d]? = some (.int .i64 (alk p i d))
theorem reach_new {w : World} {o : Obj} {cs : Array Value} (p : List UInt8) (i : Nat) (h : cs.size = 33) : ReachAt ((w.alloc o).alloc (.cells cs 183)) (w.heap.size + 1) p i 0 := by
  refine ⟨cs, ?_, h, fun d h1 h2 => by omega⟩
  have := heap_alloc_new (w.alloc o) (.cells cs 183)
  rwa [show (w.alloc o).heap.size = w.heap.size + 1 by simp] at this
theorem ReachAt.cell {w : World} {q i D : Nat} {p : List UInt8} (h : ReachAt w q p i D) (d : Nat) (h1 : 1 ≤ d) (hd : d ≤ D) : w.cell? ⟨q, d, none⟩ = some (.int .i64 (alk p i d)) := by
  obtain ⟨cs, hx, _, h2⟩ := h
  simp [World.cell?, hx, h2 d h1 hd]
theorem ReachAt.any {w : World} {q i D : Nat} {p : List UInt8} (h : ReachAt w q p i D) (d : Nat) (hd : d ≤ 32) : (∃ y, w.cell? ⟨q, d, none⟩ = some y) ∧ w.frozen? ⟨q, d, none⟩ = false := by
  obtain ⟨cs, hx, h1, _⟩ := h
  exact ⟨⟨cs[d]'(by omega), by simp [World.cell?, hx, h1, show d < 33 by omega]⟩, by simp [World.frozen?, hx]⟩
theorem ReachAt.next {w : World} {q i D : Nat} {p : List UInt8} (h : ReachAt w q p i D) (hd : D + 1 ≤ 32) : ReachAt (w.setCell ⟨q, D + 1, none⟩ (.int .i64 (alk p i (D + 1)))) q p i (D + 1) := by
  obtain ⟨cs, hx, h1, h2⟩ := h
  refine ⟨_, set_block hx _, by simp [h1], fun d hd1 hd2 => ?_⟩
  rw [Array.getElem?_setIfInBounds]
  by_cases he : D + 1 = d
  · subst he; simp; omega
  · rw [if_neg he]; exact h2 d hd1 (by omega)
theorem ReachAt.same {w w' : World} {q i D : Nat} {p : List UInt8} (h : ReachAt w q p i D) (hk : w'.heap[q]? = w.heap[q]?) : ReachAt w' q p i D := by
  obtain ⟨cs, hx, r⟩ := h
  exact ⟨cs, by rw [hk]; exact hx, r⟩
theorem ReachAt.below_alloc {w : World} {q i D : Nat} {p : List UInt8} (h : ReachAt w q p i D) (o : Obj) : ReachAt (w.alloc o) q p i D := by
  obtain ⟨cs, hx, _⟩ := id h
  exact h.same (Below.heap_alloc w o q (Array.getElem?_eq_some_iff.1 hx).1)
theorem ReachAt.grown {w w' : World} {q i D B n z : Nat} {p : List UInt8} {v : Value} {xs : List Value} (h : ReachAt w q p i D) (ho : w.ownsRow B 42 z v n xs) (hg : w.grownBy w' v.ownBlock) : ReachAt w' q p i D := by
  obtain ⟨cs, hx, r⟩ := h
  exact ⟨cs, block_grown hx ho (by decide) hg, r⟩
theorem chIn_len (p : List UInt8) (i l D : Nat) : (chIn p i l D).length ≤ D := by
  unfold chIn
  rw [List.length_map]
  exact Nat.le_trans (List.length_filter_le _ _) (by simp)
theorem chTo_len (p : List UInt8) (i : Nat) : ∀ n, (chTo p i n).length ≤ 1 + 32 * n
  | 0 => by simp [chTo]
  | n + 1 => by
    have := chTo_len p i n
    have h2 := chIn_len p i (n + 2) (min 32 i)
    rw [chTo_succ, List.length_append]
    omega

set_option maxHeartbeats 2000000 in
theorem choices_calls (a : Option Addr) (p : List UInt8) (cap i : Nat) (w : World) (hp : p.length ≤ 64) (hb : BytesAt w a p) (hi : i < p.length) :
    Calls Tryz.prog 126 #[.slice a p.length cap, .int .i64 i] w fun e w' => Below w.heap.size w w' ∧ ∃ v, e = .returned v ∧ TokRow w' w.heap.size v (chs p i) := by
  have HB : Hid (BytesAt w a p) := hb
  obtain ⟨b, off, ha, hcell⟩ : ∃ b off, a = some ⟨b, off, none⟩ ∧ ∀ j, j < p.length → w.cell? ⟨b, off + j, none⟩ = some (.int .u8 (p.getD j 0).toNat) := by
    rcases hb with h | h
    · rw [h] at hi; simp at hi
    · exact h
  subst ha
  have c0 := hcell i hi
  clear hcell hb
  generalize hx : p.getD i 0 = x at *
  have HX : Hid (p.getD i 0 = x) := hx
  clear hx
  have hw64 : wrap64 (x.toNat : Int) = (x.toNat : Int) := IntWalk.wrap64_in _ ⟨by omega, by have := x.toNat_lt; omega⟩
  have HLIT : Hid (TokRow (w.alloc (.cells #[.int .i64 1, .int .i64 0, .int .i64 x.toNat] 42)) w.heap.size (.slice (some ⟨w.heap.size, 0, none⟩) 1 1) (chTo p i 0)) := by
    have := World.ownsRow_lit (e := 42) (size := 3) (base := w.heap.size) w #[.int .i64 1, .int .i64 0, .int .i64 x.toNat] 1 (Nat.le_refl _) (by unfold maxLen; omega) rfl
    show World.ownsRow _ _ _ _ _ _ _
    have hx := HX.out
    rw [← hx] at this ⊢
    simpa [chTo, literal, cellsT] using this
  obtain ⟨it, hti, htz0, htz1, htz2⟩ := info_parts infoTok
  go_enter Tryz.func126, Tryz.ntmps126
  have hiI : 0 ≤ (i : Int) ∧ (i : Int) < (p.length : Int) := by omega
  by_cases h32 : 32 < (i : Int)
  all_goals
    go_wp2_with fail
    obtain ⟨F, hF⟩ : ∃ F : Nat, F = min 32 i := ⟨_, rfl⟩
    have HR0 : Hid (ReachAt ((w.alloc (.cells #[.int .i64 1, .int .i64 0, .int .i64 x.toNat] 42)).alloc (.cells #[.int .i64 0, .int .i64 0, .int .i64 0, .int .i64 0, .int .i64 0, .int .i64 0, .int .i64 0, .int .i64 0, .int .i64 0, .int .i64 0, .int .i64 0, .int .i64 0, .int .i64 0, .int .i64 0, .int .i64 0, .int .i64 0, .int .i64 0, .int .i64 0, .int .i64 0, .int .i64 0, .int .i64 0, .int .i64 0, .int .i64 0, .int .i64 0, .int .i64 0, .int .i64 0, .int .i64 0, .int .i64 0, .int .i64 0, .int .i64 0, .int .i64 0, .int .i64 0, .int .i64 0] 183)) (w.heap.size + 1) p i 0) := reach_new p i rfl
    have HT0 : Hid (TokRow ((w.alloc (.cells #[.int .i64 1, .int .i64 0, .int .i64 x.toNat] 42)).alloc (.cells #[.int .i64 0, .int .i64 0, .int .i64 0, .int .i64 0, .int .i64 0, .int .i64 0, .int .i64 0, .int .i64 0, .int .i64 0, .int .i64 0, .int .i64 0, .int .i64 0, .int .i64 0, .int .i64 0, .int .i64 0, .int .i64 0, .int .i64 0, .int .i64 0, .int .i64 0, .int .i64 0, .int .i64 0, .int .i64 0, .int .i64 0, .int .i64 0, .int .i64 0, .int .i64 0, .int .i64 0, .int .i64 0, .int .i64 0, .int .i64 0, .int .i64 0, .int .i64 0, .int .i64 0] 183)) w.heap.size (.slice (some ⟨w.heap.size, 0, none⟩) 1 1) (chTo p i 0)) := TokRow.alloc HLIT.out _
    have HB0 : Hid (Below w.heap.size w ((w.alloc (.cells #[.int .i64 1, .int .i64 0, .int .i64 x.toNat] 42)).alloc (.cells #[.int .i64 0, .int .i64 0, .int .i64 0, .int .i64 0, .int .i64 0, .int .i64 0, .int .i64 0, .int .i64 0, .int .i64 0, .int .i64 0, .int .i64 0, .int .i64 0, .int .i64 0, .int .i64 0, .int .i64 0, .int .i64 0, .int .i64 0, .int .i64 0, .int .i64 0, .int .i64 0, .int .i64 0, .int .i64 0, .int .i64 0, .int .i64 0, .int .i64 0, .int .i64 0, .int .i64 0, .int .i64 0, .int .i64 0, .int .i64 0, .int .i64 0, .int .i64 0, .int .i64 0] 183))) := ((Below.refl _ _).alloc (Nat.le_refl _) _).alloc (by simp) _
    generalize ((w.alloc (.cells #[.int .i64 1, .int .i64 0, .int .i64 x.toNat] 42)).alloc (.cells #[.int .i64 0, .int .i64 0, .int .i64 0, .int .i64 0, .int .i64 0, .int .i64 0, .int .i64 0, .int .i64 0, .int .i64 0, .int .i64 0, .int .i64 0, .int .i64 0, .int .i64 0, .int .i64 0, .int .i64 0, .int .i64 0, .int .i64 0, .int .i64 0, .int .i64 0, .int .i64 0, .int .i64 0, .int .i64 0, .int .i64 0, .int .i64 0, .int .i64 0, .int .i64 0, .int .i64 0, .int .i64 0, .int .i64 0, .int .i64 0, .int .i64 0, .int .i64 0, .int .i64 0] 183)) = w1 at *
    clear HLIT c0 hw64
    go_loopg [8] 33 (fun g dv wr => ∃ (D : Nat), D ≤ F ∧ g = 33 - D ∧ dv = .int .i64 ((D : Int) + 1) ∧ Hid (ReachAt wr (w.heap.size + 1) p i D) ∧ Hid (TokRow wr w.heap.size (.slice (some ⟨w.heap.size, 0, none⟩) 1 1) (chTo p i 0)) ∧ Hid (Below w.heap.size w wr))
    case atStart => exact ⟨0, by omega, rfl, rfl, HR0, HT0, HB0⟩
    case round =>
      clear HR0 HT0 HB0
      obtain ⟨D, hD, hg, rfl, HR, HT, HW⟩ := hrel
      have HG : Hid (gk = 33 - D) := hg
      clear hg
      by_cases hlt : D < F
      · have hd1 : (D : Int) + 1 ≤ 32 := by omega
        have hd2 : (D : Int) + 1 ≤ (i : Int) := by omega
        have HC : Hid ((D : Int) + 1 = ((D + 1 : Nat) : Int)) := by show _ = _; omega
        go_wp2_with fail
        rw [HC.out]
        refine (same_is _ p cap i (D + 1) wr hp (bytesAt_below2 HB.out HW.out) (by omega) (by omega) (by omega)).mono ?_
        rintro e w4 ⟨rfl, nd, rfl⟩
        have HR4 : Hid (ReachAt (wr.drewN nd) (w.heap.size + 1) p i D) := HR.out.same rfl
        have HT4 : Hid (TokRow (wr.drewN nd) w.heap.size (.slice (some ⟨w.heap.size, 0, none⟩) 1 1) (chTo p i 0)) := HT.out
        have HW4 : Hid (Below w.heap.size w (wr.drewN nd)) := below_drewN HW.out nd
        generalize wr.drewN nd = w4 at *
        obtain ⟨⟨y, hy⟩, hfz⟩ := HR4.out.any (D + 1) (by omega)
        have HR5 : Hid (ReachAt (w4.setCell ⟨w.heap.size + 1, D + 1, none⟩ (.int .i64 (alk p i (D + 1)))) (w.heap.size + 1) p i (D + 1)) := HR4.out.next (by omega)
        have HT5 : Hid (TokRow (w4.setCell ⟨w.heap.size + 1, D + 1, none⟩ (.int .i64 (alk p i (D + 1)))) w.heap.size (.slice (some ⟨w.heap.size, 0, none⟩) 1 1) (chTo p i 0)) := ownsRow_setCell_other HT4.out (by simp [Value.ownBlock]) _
        have HW5 : Hid (Below w.heap.size w (w4.setCell ⟨w.heap.size + 1, D + 1, none⟩ (.int .i64 (alk p i (D + 1))))) := HW4.out.setCell (by simp only; omega) _
        have hdI : 0 ≤ (D : Int) + 1 ∧ (D : Int) + 1 < 33 := by omega
        have hdI2 : 0 ≤ ((D + 1 : Nat) : Int) ∧ ((D + 1 : Nat) : Int) < 33 := by omega
        clear HR HT HW HR4 HT4 HW4
        go_wp2
        go_roundg (33 - (D + 1))
        case measure => have := HG.out; omega
        case rel => exact ⟨D + 1, by omega, rfl, by go_num, HR5, HT5, HW5⟩
      · have hDF : D = F := by omega
        have HR1 : Hid (ReachAt wr (w.heap.size + 1) p i F) := by have := HR.out; rw [hDF] at this; exact this
        clear HR
        first | (have h9 : (32 : Int) < (i : Int) := h32; have h8 : ¬ (D : Int) + 1 ≤ 32 := (by omega)) | (have h8 : ¬ (D : Int) + 1 ≤ (i : Int) := by omega)
        go_wp2_with fail
        clear h8 hDF HG hlt
        go_loopg [5, 9] 65 (fun g v lv wr => ∃ (L : Nat), L ≤ p.length - i - 1 ∧ g = 65 - L ∧ lv = .int .i64 ((L : Int) + 2) ∧ Hid (ReachAt wr (w.heap.size + 1) p i F) ∧ Hid (TokRow wr w.heap.size v (chTo p i L)) ∧ Hid (Below w.heap.size w wr))
        case atStart => exact ⟨0, by omega, rfl, rfl, HR1, HT, HW⟩
        case round =>
          clear HR1 HT HW
          obtain ⟨L, hL, hg, rfl, HR, HT, HW⟩ := hrel
          have HG : Hid (gk = 65 - L) := hg
          clear hg
          obtain ⟨ao, cp, rfl⟩ := HT.out.form
          by_cases hlt : L < p.length - i - 1
          · have hl1 : (L : Int) + 2 ≤ (p.length : Int) - (i : Int) := by omega
            go_wp2_with fail
            go_loopg [5, 10] 33 (fun g v dv wr => ∃ (D : Nat), D ≤ F ∧ g = 33 - D ∧ dv = .int .i64 ((D : Int) + 1) ∧ Hid (ReachAt wr (w.heap.size + 1) p i F) ∧ Hid (TokRow wr w.heap.size v (chTo p i L ++ chIn p i (L + 2) D)) ∧ Hid (Below w.heap.size w wr))
            case atStart => exact ⟨0, by omega, rfl, rfl, HR, by show TokRow _ _ _ _; rw [show chIn p i (L + 2) 0 = [] from rfl, List.append_nil]; exact HT.out, HW⟩
            case round =>
              clear HR HT HW
              obtain ⟨D, hD, hg, rfl, HR, HT, HW⟩ := hrel
              have HG2 : Hid (gk = 33 - D) := hg
              clear hg
              obtain ⟨ao, cp, rfl⟩ := HT.out.form
              by_cases hlt : D < F
              · have hd1 : (D : Int) + 1 ≤ 32 := by omega
                have hd2 : (D : Int) + 1 ≤ (i : Int) := by omega
                have hc := HR.out.cell (D + 1) (by omega) (by omega)
                have hdI : 0 ≤ (D : Int) + 1 ∧ (D : Int) + 1 < 33 := by omega
                have hS := chIn_succ p i (L + 2) D
                have hlen : (chTo p i L ++ chIn p i (L + 2) D).length ≤ 1 + 32 * L + D := by
                  have h1 := chTo_len p i L
                  have h2 := chIn_len p i (L + 2) D
                  rw [List.length_append]; omega
                have hsz := HW.out.size
                by_cases hal : L + 2 ≤ alk p i (D + 1)
                · have hal' : (L : Int) + 2 ≤ (alk p i (D + 1) : Int) := by omega
                  rw [if_pos hal] at hS
                  have HS : Hid _ := hS
                  generalize alk p i (D + 1) = A at *
                  generalize hacc : chTo p i L ++ chIn p i (L + 2) D = acc at *
                  have HACC : Hid _ := hacc
                  clear hS hacc hal
                  go_wp2_with (at_builtin; refine wpList_append_own _ rfl _ _ 32 rfl w.heap.size 42 it (.agg #[.int .i64 0, .int .i64 0, .int .i64 0]) 3 24 Tryz.underlying32 hti htz0 htz1 htz2 rfl (by decide) _ _ _ rfl (TokRow.alloc HT.out _) ⟨wr.heap.size, 0, none⟩ 1 1 [.int .i64 ((L : Int) + 2), .int .i64 ((D : Int) + 1), .int .i64 0] rfl rfl ?b1 ?b2 ?b3 ?b4 ?b5 ?_)
                  case b1 => intro j u hj; exact cell_new3 _ _ _ _ _ j u hj
                  case b2 => intro u hu; simp at hu; rcases hu with rfl | rfl | rfl <;> rfl
                  case b3 => unfold maxLen; omega
                  case b4 => omega
                  case b5 => first | omega | (simp; omega)
                  intro v' w3 hown' hgrow _
                  have HW3 : Hid (Below w.heap.size w w3) := (HW.out.alloc hsz _).grown hgrow (by simp; omega) (fun k hk => (World.ownsRow.lt HT.out k hk).1)
                  have HR3 : Hid (ReachAt w3 (w.heap.size + 1) p i F) := (HR.out.below_alloc _).grown (TokRow.alloc HT.out _) hgrow
                  have HT3 : Hid (TokRow w3 w.heap.size v' (chTo p i L ++ chIn p i (L + 2) (D + 1))) := by
                    show w3.ownsRow _ _ _ _ _ _
                    rw [HS.out, ← List.append_assoc, HACC.out, cellsT_snoc, List.length_append]
                    exact hown'
                  clear hown' hgrow HR HT HW
                  go_wp2
                  go_roundg (33 - (D + 1))
                  case measure => have := HG2.out; omega
                  case rel => exact ⟨D + 1, by omega, rfl, by go_num, HR3, HT3, HW3⟩
                · have hal' : ¬ (L : Int) + 2 ≤ (alk p i (D + 1) : Int) := by omega
                  rw [if_neg hal, List.append_nil] at hS
                  have HT3 : Hid (TokRow wr w.heap.size (.slice ao (chTo p i L ++ chIn p i (L + 2) D).length cp) (chTo p i L ++ chIn p i (L + 2) (D + 1))) := by
                    show TokRow _ _ _ _
                    rw [hS]; exact HT.out
                  generalize alk p i (D + 1) = A at *
                  clear hS hal HT
                  generalize (chTo p i L ++ chIn p i (L + 2) D).length = NN at *
                  go_wp2
                  go_roundg (33 - (D + 1))
                  case measure => have := HG2.out; omega
                  case rel => exact ⟨D + 1, by omega, rfl, by go_num, HR, HT3, HW⟩
              · have hDF : D = min 32 i := by omega
                have HT1 : Hid (TokRow wr w.heap.size (.slice ao (chTo p i L ++ chIn p i (L + 2) D).length cp) (chTo p i (L + 1))) := by
                  have := HT.out
                  show TokRow _ _ _ _
                  rw [chTo_succ, ← hDF]
                  exact this
                clear HT
                first | (have h9 : (32 : Int) < (i : Int) := h32; have h8 : ¬ (D : Int) + 1 ≤ 32 := (by omega)) | (have h8 : ¬ (D : Int) + 1 ≤ (i : Int) := by omega)
                generalize (chTo p i L ++ chIn p i (L + 2) D).length = NN at *
                clear hDF
                go_wp2
                go_roundg (65 - (L + 1))
                case measure => have := HG.out; omega
                case rel => exact ⟨L + 1, by omega, rfl, by go_num, HR, HT1, HW⟩
          · have hl1 : ¬ (L : Int) + 2 ≤ (p.length : Int) - (i : Int) := by omega
            have HT1 : Hid (TokRow wr w.heap.size (.slice ao (chTo p i L).length cp) (chs p i)) := by
              have := HT.out
              show TokRow _ _ _ _
              unfold chs
              rw [show p.length - i - 1 = L by omega]
              exact this
            clear HT
            generalize (chTo p i L).length = NN at *
            go_wp2
            go_ret
            exact ⟨HW.out, _, rfl, HT1.out⟩
end Go.Proofs.YtnpnaglgllcpfaaGreat

/- What is known of one place out of those behind it: best.restAt. -/
namespace Go.Proofs.YtnpnaglgllcpfaaGreat
set_option maxRecDepth 100000
open Go.RowKit

/-- What is known of the places from lo on lies in memory: costs and counts. -/
def TabAt (w : World) (g : Nat) (p : List UInt8) (lo : Nat) : Prop :=
  ∀ j, lo ≤ j → j ≤ p.length → w.cell? ⟨g, j * 3, none⟩ = some (.int .i64 (toC p j)) ∧ w.cell? ⟨g, j * 3 + 1, none⟩ = some (.int .i64 (capW p j)) ∧ ∃ a n c, w.cell? ⟨g, j * 3 + 2, none⟩ = some (.slice a n c)
theorem TabAt.same {w w' : World} {g lo : Nat} {p : List UInt8} (h : TabAt w g p lo) (hk : w'.heap[g]? = w.heap[g]?) : TabAt w' g p lo := fun j h1 h2 => by
  obtain ⟨c0, c1, a, n, c, c2⟩ := h j h1 h2
  exact ⟨by rw [World.cell?_of_block (a := ⟨g, j * 3, none⟩) hk]; exact c0, by rw [World.cell?_of_block (a := ⟨g, j * 3 + 1, none⟩) hk]; exact c1, a, n, c, by rw [World.cell?_of_block (a := ⟨g, j * 3 + 2, none⟩) hk]; exact c2⟩
theorem chs_bound (p : List UInt8) (i : Nat) (hp : p.length ≤ 64) (hi : i < p.length) (t : Tok) (ht : t ∈ chs p i) :
    (t.dist = 0 ∨ 1 ≤ t.dist ∧ t.dist ≤ 32 ∧ 2 ≤ t.len ∧ t.len ≤ 64) ∧ 1 ≤ t.len ∧ i + t.len.toNat ≤ p.length ∧ t.cost ≤ 31 ∧ kst p i t ≤ 1000 := by
  have hm := (mem_chs p i hi t).1 ht
  have hl := out_len p i hi t hm
  have hf := (out_step p hp i hi t hm).1
  have hc := Tok.cost_le t i (by omega) hf
  have hi' := ((Tok.fits_iff _ _).1 hf).1
  have ht := toC_le p (i + t.len.toNat) hl.2.1
  refine ⟨by omega, hl.1, hl.2.1, hc, ?_⟩
  unfold kst
  omega
theorem infoRest : (Tryz.prog.info? 157).map (fun i => (i.zero, i.size, i.bytes)) = some (some (.agg #[.int .i64 0, .int .i64 0, .slice none 0 0]), 3, 40) := by kernel_rfl

theorem rest_start {w w1 : World} {o : Obj} {v : Value} {ts : List Tok} (hb : Below ((w.alloc o).alloc (.cells #[.int .i64 0, .int .i64 0, .slice none 0 0] 157)).heap.size ((w.alloc o).alloc (.cells #[.int .i64 0, .int .i64 0, .slice none 0 0] 157)) w1)
    (hv : TokRow w1 ((w.alloc o).alloc (.cells #[.int .i64 0, .int .i64 0, .slice none 0 0] 157)).heap.size v ts) :
    Hid (Below w.heap.size w w1) ∧ Hid (w1.heap[w.heap.size + 1]? = some (.cells #[.int .i64 0, .int .i64 0, .slice none 0 0] 157 (0, 0))) ∧ w.heap.size + 2 ≤ w1.heap.size ∧ Hid (TokRow w1 (w.heap.size + 2) v ts) ∧ Hid (w1.heap[w.heap.size]? = some o) := by
  have hz : ((w.alloc o).alloc (.cells #[.int .i64 0, .int .i64 0, .slice none 0 0] 157)).heap.size = w.heap.size + 2 := by simp
  have hs := hb.size
  rw [hz] at hs hv
  refine ⟨?_, ?_, hs, hv, ?_⟩
  · exact (((Below.refl w.heap.size w).alloc (Nat.le_refl _) _).alloc (by simp) _).trans (hb.mono (by omega))
  · show _ = _
    rw [hb.block _ (by omega)]
    have := heap_alloc_new (w.alloc o) (.cells #[.int .i64 0, .int .i64 0, .slice none 0 0] 157)
    rwa [show (w.alloc o).heap.size = w.heap.size + 1 by simp] at this
  · show _ = _
    rw [hb.block _ (by omega), Below.heap_alloc (w.alloc o) _ _ (by simp)]
    exact heap_alloc_new w o
theorem row_less {w : World} {B B' n z : Nat} {e : TypeId} {v : Value} {xs : List Value} (h : w.ownsRow B e z v n xs) (hb : B' ≤ B) : w.ownsRow B' e z v n xs := by
  refine ⟨h.1, ?_⟩
  rcases h.2 with h' | ⟨g, cap, cur, h1, h2, r⟩
  · exact .inl h'
  · exact .inr ⟨g, cap, cur, h1, Nat.le_trans hb h2, r⟩

theorem rest_boxes {wr w3 : World} {o1 o2 : Obj} (hb : Below ((wr.alloc o1).alloc o2).heap.size ((wr.alloc o1).alloc o2) w3) : Below wr.heap.size wr w3 ∧ w3.heap[wr.heap.size]? = some o1 ∧ w3.heap[wr.heap.size + 1]? = some o2 ∧ wr.heap.size + 2 ≤ w3.heap.size := by
  have hz : ((wr.alloc o1).alloc o2).heap.size = wr.heap.size + 2 := by simp
  have hz1 : (wr.alloc o1).heap.size = wr.heap.size + 1 := by simp
  have hs := hb.size
  rw [hz] at hs
  refine ⟨(((Below.refl wr.heap.size wr).alloc (Nat.le_refl _) _).alloc (by simp) _).trans (hb.mono (by omega)), ?_, ?_, hs⟩
  · rw [hb.block _ (by omega), Below.heap_alloc (wr.alloc o1) o2 _ (by omega)]
    exact heap_alloc_new wr o1
  · rw [hb.block _ (by omega)]
    have := heap_alloc_new (wr.alloc o1) o2
    rwa [hz1] at this
theorem rest_more {wr w2 w3 : World} {o1 o2 : Obj} (h : Below wr.heap.size wr w2 ∧ w2.heap[wr.heap.size]? = some o1 ∧ w2.heap[wr.heap.size + 1]? = some o2 ∧ wr.heap.size + 2 ≤ w2.heap.size) (hb : Below w2.heap.size w2 w3) :
    Below wr.heap.size wr w3 ∧ w3.heap[wr.heap.size]? = some o1 ∧ w3.heap[wr.heap.size + 1]? = some o2 ∧ wr.heap.size + 2 ≤ w3.heap.size := by
  obtain ⟨h1, h2, h3, h4⟩ := h
  have hs := hb.size
  exact ⟨h1.trans (hb.mono (by omega)), by rw [hb.block _ (by omega)]; exact h2, by rw [hb.block _ (by omega)]; exact h3, by omega⟩
theorem OneKept.then_below {w w' w'' : World} {q : Nat} (h : OneKept w w' q) (hb : Below w'.heap.size w' w'') : OneKept w w'' q :=
  ⟨hb.os.trans h.os, hb.tape.trans h.tape, hb.output.trans h.output, Nat.le_trans h.size hb.size, fun k hk hq => (hb.block k (Nat.lt_of_lt_of_le hk h.size)).trans (h.heap k hk hq)⟩

theorem rest_set3 {w : World} {q : Nat} {a b c : Value} {t : TypeId} (h : w.heap[q]? = some (.cells #[a, b, c] t (0, 0))) (x y z : Value) :
    (((w.setCell ⟨q, 0, none⟩ x).setCell ⟨q, 1, none⟩ y).setCell ⟨q, 2, none⟩ z).heap[q]? = some (.cells #[x, y, z] t (0, 0)) := by
  rw [set_block (set_block (set_block h x) y) z]
  rfl
theorem rest_append {w1 w4 w5 : World} {q : Nat} {fv : Value} {acc : List Tok} {o X : Obj} (hk : OneKept w1 w4 q) (hx : w4.heap[q]? = some X) (hrow : TokRow w4 w1.heap.size fv acc) (hq : q < w1.heap.size) (hg : (w4.alloc o).grownBy w5 fv.ownBlock) : OneKept w1 w5 q ∧ w5.heap[q]? = some X := by
  have hs := hk.size
  have hz : (w4.alloc o).heap.size = w4.heap.size + 1 := by simp
  have hsz := hg.size
  have hown := fun k hk' => World.ownsRow.lt hrow k hk'
  have hblk : ∀ k, k < w1.heap.size → w5.heap[k]? = w4.heap[k]? := fun k h1 => by
    rw [hg.block k (by omega) (fun e => by have := (hown k e.symm).1; omega), Below.heap_alloc w4 o k (by omega)]
  refine ⟨⟨hg.os.trans hk.os, hg.tape.trans hk.tape, hg.output.trans hk.output, by omega, fun k h1 h2 => ?_⟩, ?_⟩
  · rw [hblk k h1]; exact hk.heap k h1 h2
  · rw [hblk q hq]; exact hx
theorem row_under {w : World} {B n z q i : Nat} {e : TypeId} {v u : Value} {xs : List Value} (h : w.ownsRow B e z v n xs) (hq : q < B) : (w.setCell ⟨q, i, none⟩ u).ownsRow B e z v n xs := ownsRow_setCell_below h hq u

set_option maxHeartbeats 2000000 in
theorem restAt_calls (a : Option Addr) (p : List UInt8) (cap i g gc : Nat) (w : World) (hp : p.length ≤ 64) (hb : BytesAt w a p) (hi : i < p.length) (ht : TabAt w g p (i + 1)) :
    Calls Tryz.prog 119 #[.slice a p.length cap, .int .i64 i, .slice (some ⟨g, 0, none⟩) (p.length + 1) gc] w fun e w' => Below w.heap.size w w' ∧ ∃ v, e = .returned (.agg #[.int .i64 (toC p i), .int .i64 (capW p i), v]) ∧ TokRow w' w.heap.size v (firsts p i) := by
  have HB : Hid (BytesAt w a p) := hb
  have HTAB : Hid (TabAt w g p (i + 1)) := ht
  have hg : g < w.heap.size := World.block_lt_of_cell? w _ (ht p.length (by omega) (Nat.le_refl _)).1
  clear hb ht
  obtain ⟨it, hti, htz0, htz1, htz2⟩ := info_parts infoTok
  go_enter Tryz.func119, Tryz.ntmps119
  go_wp2_with fail
  refine (choices_calls a p cap i _ hp (bytesAt_below2 HB.out (((Below.refl _ _).alloc (Nat.le_refl _) _).alloc (by simp) _)) hi).mono ?_
  rintro e w1 ⟨hb1, v, rfl, hv⟩
  obtain ⟨HK1, HX1, hs1, HV, HO1⟩ := rest_start hb1 hv
  clear hv hb1
  obtain ⟨va, vc, rfl⟩ := TokRow.form HV.out
  generalize hq : w.heap.size + 1 = q at *
  have HQ : Hid (w.heap.size + 1 = q) := hq
  go_wp2_with fail
  have HCL : Hid ((chs p i).length ≤ 2017) := by
    have := chTo_len p i (p.length - i - 1)
    show (chTo p i (p.length - i - 1)).length ≤ 2017
    omega
  go_loopg [16] (chs p i).length (fun gk iv wr => ∃ (k c u : Nat) (f : List Tok) (fa : Option Addr) (fc : Nat), k ≤ (chs p i).length ∧ gk = (chs p i).length - k ∧ iv = .int .i64 k ∧ Hid (OneKept w1 wr q) ∧ Hid (RSt p i ((chs p i).take k) c u f) ∧ Hid (wr.heap[q]? = some (.cells #[.int .i64 c, .int .i64 u, .slice fa f.length fc] 157 (0, 0))) ∧ Hid (TokRow wr w1.heap.size (.slice fa f.length fc) f))
  case atStart => exact ⟨0, 0, 0, [], none, 0, by omega, rfl, rfl, OneKept.refl _ _, .inl ⟨rfl, rfl, rfl, rfl⟩, HX1, World.ownsRow_nil _ _ _ _⟩
  case round =>
    clear HX1
    obtain ⟨k, c, u, f, fa, fc, hk, hgk, rfl, HK, HST, HX, HF⟩ := hrel
    have HG : Hid (gk = (chs p i).length - k) := hgk
    have hsw := HK.out.size
    clear hgk
    by_cases hlt : k < (chs p i).length
    · obtain ⟨vb, voff, hva, hvl, hcell⟩ : ∃ b off, va = some ⟨b, off, none⟩ ∧ b < wr.heap.size ∧ ∀ i' (hi : i' < (chs p i).length),
          wr.cell? ⟨b, off + i' * 3, none⟩ = some (.int .i64 (chs p i)[i'].len) ∧ wr.cell? ⟨b, off + i' * 3 + 1, none⟩ = some (.int .i64 (chs p i)[i'].dist) ∧ wr.cell? ⟨b, off + i' * 3 + 2, none⟩ = some (.int .i64 (chs p i)[i'].byte) := by
        rcases TokRow.toks (TokRow.kept HV.out HK.out (by omega)) with h | h
        · rw [h] at hlt; simp at hlt
        · exact h
      subst hva
      obtain ⟨c0, c1, c2⟩ := hcell k hlt
      obtain ⟨hdl, hl1, hip, hco, hks⟩ := chs_bound p i hp hi _ (List.getElem_mem hlt)
      have hto := toC_le p (i + (chs p i)[k].len.toNat) hip
      have hcw := capW_le p (i + (chs p i)[k].len.toNat)
      have hbd := HST.out.bound (fun t ht => (chs_bound p i hp hi t (List.mem_of_mem_take ht)).2.2.2.2)
      have hkx : kst p i (chs p i)[k] = (chs p i)[k].cost + toC p (i + (chs p i)[k].len.toNat) := rfl
      have HTK : Hid ((chs p i).take (k + 1) = (chs p i).take k ++ [(chs p i)[k]]) := Tok.take_snoc _ k hlt
      have hfl : f.length ≤ 2017 := by
        have := hbd.2.2
        rw [List.length_take] at this
        have := HCL.out
        omega
      have hkb : k + 1 ≤ 2017 := by have := HCL.out; omega
      clear hcell
      generalize (chs p i)[k] = t at *
      obtain ⟨tl, td, tb⟩ := t
      simp only at c0 c1 c2 hdl hl1 hip hto hcw hkx
      obtain ⟨T, rfl⟩ : ∃ T : Nat, tl = (T : Int) := ⟨tl.toNat, by omega⟩
      rw [Int.toNat_natCast] at hip hto hcw hkx
      obtain ⟨d0, d1, na, nn, nc, d2⟩ := (HTAB.out.same (w' := wr) (by rw [HK.out.heap g (by omega) (by omega)]; exact HK1.out.block g hg)) (i + T) (by omega) hip
      obtain ⟨⟨x0, x1, x2⟩, y0, y1, y2⟩ := trio_cell HX.out
      have hix : 0 ≤ (i : Int) + (T : Int) ∧ (i : Int) + (T : Int) < ((p.length + 1 : Nat) : Int) := by omega
      have hgr : g < wr.heap.size := by omega
      have hqr : q < wr.heap.size := by omega
      generalize toC p (i + T) = C at *
      generalize hcwW : capW p (i + T) = W at *
      have HCW : Hid _ := hcwW
      have HKX : Hid _ := hkx
      clear hkx hcwW
      go_wp2_with fail
      have HP : Hid _ := rest_boxes (wr := wr) (o1 := .cells #[.int .i64 T, .int .i64 td, .int .i64 tb] 42) (o2 := .cells #[.int .i64 C, .int .i64 W, .slice na nn nc] 157) (Below.refl _ _)
      generalize hW2 : (wr.alloc (.cells #[.int .i64 T, .int .i64 td, .int .i64 tb] 42)).alloc (.cells #[.int .i64 C, .int .i64 W, .slice na nn nc] 157) = w2 at *
      clear hW2
      obtain ⟨⟨k0, k1, k2⟩, _⟩ := trio_cell HP.out.2.1
      obtain ⟨⟨l0, l1, l2⟩, _⟩ := trio_cell HP.out.2.2.1
      have e0 := above_cell k0
      have e1 := above_cell k1
      have e2 := above_cell k2
      have e3 := above_cell l0
      have HCO : Hid (∀ W : World, Calls Tryz.prog 90 #[.agg #[.int .i64 T, .int .i64 td, .int .i64 tb]] W fun r w' => r = .returned (.int .i64 (Tok.cost ⟨T, td, tb⟩)) ∧ Below W.heap.size W w') := fun W => costOf_calls T td tb W hdl
      generalize hkc : Tok.cost ⟨T, td, tb⟩ = kc at *
      have HKC : Hid _ := hkc
      clear hkc c0 c1 c2 d0 d1 d2 x0 x1 x2 y0 y1 y2 k0 k1 k2 l0 l1 l2
      refine wp_region_above (W := w2) (Below.refl _ _) (by kernel_rfl) (by kernel_rfl) ?_
      repeat (go_big_quiet_step ((go_at_call 90; exact Calls.above_of (HCO.out _))))
      refine wpQuiet_nil ?_
      rintro _ ⟨X, rfl⟩
      obtain ⟨hb3, hx3t, hx3b, hs3⟩ := rest_more HP.out (above_below w2 X)
      clear e0 e1 e2 e3 HCO HP
      generalize above w2 X = w3 at *
      have HX3 : Hid (w3.heap[q]? = some (.cells #[.int .i64 c, .int .i64 u, .slice fa f.length fc] 157 (0, 0))) := by show _ = _; rw [hb3.block q hqr]; exact HX.out
      have HF3 : Hid (TokRow w3 w1.heap.size (.slice fa f.length fc) f) := TokRow.below HF.out hb3
      have HK3 : Hid (OneKept w1 w3 q) := HK.out.then_below hb3
      have HBT : Hid (w3.heap[wr.heap.size]? = some (.cells #[.int .i64 T, .int .i64 td, .int .i64 tb] 42 (0, 0))) := hx3t
      have HBB : Hid (w3.heap[wr.heap.size + 1]? = some (.cells #[.int .i64 C, .int .i64 W, .slice na nn nc] 157 (0, 0))) := hx3b
      obtain ⟨⟨x0, x1, x2⟩, y0, y1, y2⟩ := trio_cell HX3.out
      obtain ⟨⟨k0, k1, k2⟩, _⟩ := trio_cell hx3t
      obtain ⟨⟨l0, l1, l2⟩, _⟩ := trio_cell hx3b
      clear HX HF HK hb3 hx3t hx3b
      have hbtq : wr.heap.size ≠ q := by omega
      have hbbq : wr.heap.size + 1 ≠ q := by omega
      generalize hbt : wr.heap.size = bt at *
      clear hbt
      by_cases hA : f = [] ∨ kc + C < c
      · have HS4 : Hid (RSt p i ((chs p i).take (k + 1)) (kc + C) W [⟨(T : Int), td, tb⟩]) := by
          have := HST.out.new (t := ⟨(T : Int), td, tb⟩) (by rw [HKX.out]; exact hA)
          rw [HKX.out, Int.toNat_natCast, HCW.out, ← HTK.out] at this
          exact this
        have hcz : 0 < f.length → (kc : Int) + (C : Int) < (c : Int) := by
          intro h
          rcases hA with h' | h'
          · rw [h'] at h; exact absurd h (by simp)
          · omega
        rcases Nat.eq_zero_or_pos f.length with hf0 | hf0
        all_goals
          first | (have hfz : (f.length : Int) = 0 := by omega) | (have hfz : ¬ (f.length : Int) = 0 := (by omega); have hcy := hcz hf0)
          clear hA hcz hf0
          go_wp2_with fail
          refine (added_calls 0 W _ (by omega) hcw).mono ?_
          rintro e _ ⟨rfl, rfl⟩
          rw [show min (0 + W) 1000000000 = W by omega]
          have hx4 := rest_set3 HX3.out (.int .i64 ((kc : Int) + (C : Int))) (.int .i64 0) (.slice none 0 0)
          have hk4 := ((HK3.out.set (i := 0) (.int .i64 ((kc : Int) + (C : Int)))).set (i := 1) (.int .i64 0)).set (i := 2) (.slice none 0 0)
          have hz4 : (((w3.setCell ⟨q, 0, none⟩ (.int .i64 ((kc : Int) + (C : Int)))).setCell ⟨q, 1, none⟩ (.int .i64 0)).setCell ⟨q, 2, none⟩ (.slice none 0 0)).heap.size = w3.heap.size := by rw [set_size, set_size, set_size]
          have hbt4 : (((w3.setCell ⟨q, 0, none⟩ (.int .i64 ((kc : Int) + (C : Int)))).setCell ⟨q, 1, none⟩ (.int .i64 0)).setCell ⟨q, 2, none⟩ (.slice none 0 0)).heap[bt]? = some (.cells #[.int .i64 T, .int .i64 td, .int .i64 tb] 42 (0, 0)) := by
            rw [set_other _ hbtq, set_other _ hbtq, set_other _ hbtq]; exact HBT.out
          generalize (((w3.setCell ⟨q, 0, none⟩ (.int .i64 ((kc : Int) + (C : Int)))).setCell ⟨q, 1, none⟩ (.int .i64 0)).setCell ⟨q, 2, none⟩ (.slice none 0 0)) = w4 at *
          have HX4 : Hid _ := hx4
          have HK4 : Hid _ := hk4
          have hs4 : bt + 2 ≤ w4.heap.size := by omega
          clear hz4
          clear x0 x1 x2 y0 y1 y2 k0 k1 k2 l0 l1 l2 HX3 HF3 HK3 HBT HBB
          obtain ⟨⟨x0, x1, x2⟩, y0, y1, y2⟩ := trio_cell hx4
          obtain ⟨⟨k0, k1, k2⟩, _⟩ := trio_cell hbt4
          clear hx4 hk4 hbt4
          go_wp2_with (at_builtin; refine wpList_append_own _ rfl _ _ 32 rfl w1.heap.size 42 it (.agg #[.int .i64 0, .int .i64 0, .int .i64 0]) 3 24 Tryz.underlying32 hti htz0 htz1 htz2 rfl (by decide) _ _ _ rfl (World.ownsRow_nil _ _ _ _) ⟨w4.heap.size, 0, none⟩ 1 1 [.int .i64 T, .int .i64 td, .int .i64 tb] rfl rfl ?b1 ?b2 ?b3 ?b4 ?b5 ?_)
          case b1 => intro j u hj; exact cell_new3' _ _ (by simp) _ _ _ _ j u hj
          case b2 => intro u hu; simp at hu; rcases hu with rfl | rfl | rfl <;> rfl
          case b3 => unfold maxLen; omega
          case b4 => omega
          case b5 => first | omega | (simp; omega)
          intro v' w5 hown' hgrow _
          obtain ⟨hk5, hx5⟩ := rest_append (HK4.out.set (i := 1) (.int .i64 W)) (set_block (i := 1) HX4.out (.int .i64 W)) (acc := []) (show TokRow _ _ (.slice none 0 0) [] from World.ownsRow_nil _ _ _ _) (by omega) hgrow
          have HF5 : Hid (TokRow w5 w1.heap.size v' [⟨(T : Int), td, tb⟩]) := hown'
          obtain ⟨va', vc', rfl⟩ := TokRow.form HF5.out
          have HK5 : Hid _ := hk5
          have HX5 : Hid (w5.heap[q]? = some (.cells #[.int .i64 ((kc : Int) + (C : Int)), .int .i64 W, .slice none 0 0] 157 (0, 0))) := hx5
          obtain ⟨⟨z0, z1, z2⟩, z3, z4, z5⟩ := trio_cell HX5.out
          clear hown' hgrow hk5 hx5 x0 x1 x2 y0 y1 y2 k0 k1 k2
          go_wp2
          go_roundg ((chs p i).length - (k + 1))
          case measure => have := HG.out; omega
          case rel =>
            refine ⟨k + 1, kc + C, W, [⟨(T : Int), td, tb⟩], va', vc', by omega, rfl, by go_num, HK5.out.set _, HS4, ?_, row_under HF5.out (by omega)⟩
            show _ = _
            rw [set_block HX5.out]
            rfl
      · have hne : f ≠ [] := fun h => hA (.inl h)
        have hfz : ¬ (f.length : Int) = 0 := by
          intro h
          exact hne (List.eq_nil_of_length_eq_zero (by omega))
        have hnl : ¬ (kc : Int) + (C : Int) < (c : Int) := by
          intro h
          exact hA (.inr (by omega))
        by_cases hB : kc + C = c
        · have HS4 : Hid (RSt p i ((chs p i).take (k + 1)) c (min (u + W) 1000000000) (f ++ [⟨(T : Int), td, tb⟩])) := by
            have := HST.out.more (t := ⟨(T : Int), td, tb⟩) hne (by rw [HKX.out]; exact hB)
            rw [Int.toNat_natCast, HCW.out, ← HTK.out] at this
            exact this
          have hcb : ((kc : Int) + (C : Int) == (c : Int)) = true := by simp; omega
          have hub := hbd.2.1
          clear hA hB hne
          go_wp2_with fail
          refine (added_calls u W _ hub hcw).mono ?_
          rintro e w' ⟨rfl, hw⟩
          rw [hw]
          clear hw w'
          generalize min (u + W) 1000000000 = U at *
          go_wp2_with (at_builtin; refine wpList_append_own _ rfl _ _ 32 rfl w1.heap.size 42 it (.agg #[.int .i64 0, .int .i64 0, .int .i64 0]) 3 24 Tryz.underlying32 hti htz0 htz1 htz2 rfl (by decide) _ _ _ rfl (World.ownsRow.alloc (row_under (q := q) (i := 1) (u := .int .i64 U) HF3.out (by omega)) _) ⟨w3.heap.size, 0, none⟩ 1 1 [.int .i64 T, .int .i64 td, .int .i64 tb] rfl rfl ?b1 ?b2 ?b3 ?b4 ?b5 ?_)
          case b1 => intro j u hj; exact cell_new3' _ _ (by simp) _ _ _ _ j u hj
          case b2 => intro u hu; simp at hu; rcases hu with rfl | rfl | rfl <;> rfl
          case b3 => unfold maxLen; omega
          case b4 => omega
          case b5 => first | omega | (simp; omega)
          intro v' w5 hown' hgrow _
          obtain ⟨hk5, hx5⟩ := rest_append (HK3.out.set (i := 1) (.int .i64 U)) (set_block (i := 1) HX3.out (.int .i64 U)) (acc := f) (row_under HF3.out (by omega)) (by omega) hgrow
          have HF5 : Hid (TokRow w5 w1.heap.size v' (f ++ [⟨(T : Int), td, tb⟩])) := by
            show w5.ownsRow _ _ _ _ _ _
            rw [cellsT_snoc, List.length_append]
            exact hown'
          obtain ⟨va', vc', rfl⟩ := TokRow.form HF5.out
          have HK5 : Hid _ := hk5
          have HX5 : Hid (w5.heap[q]? = some (.cells #[.int .i64 c, .int .i64 U, .slice fa f.length fc] 157 (0, 0))) := hx5
          obtain ⟨⟨z0, z1, z2⟩, z3, z4, z5⟩ := trio_cell HX5.out
          clear hown' hgrow hk5 hx5 x0 x1 x2 y0 y1 y2 k0 k1 k2 l0 l1 l2
          generalize hf2 : f ++ [⟨(T : Int), td, tb⟩] = f2 at *
          clear hf2
          go_wp2
          go_roundg ((chs p i).length - (k + 1))
          case measure => have := HG.out; omega
          case rel =>
            refine ⟨k + 1, c, U, f2, va', vc', by omega, rfl, by go_num, HK5.out.set _, HS4, ?_, row_under HF5.out (by omega)⟩
            show _ = _
            rw [set_block HX5.out]
            rfl
        · have HS4 : Hid (RSt p i ((chs p i).take (k + 1)) c u f) := by
            have := HST.out.skip (t := ⟨(T : Int), td, tb⟩) hne (by rw [HKX.out]; omega)
            rw [← HTK.out] at this
            exact this
          have hcb : ((kc : Int) + (C : Int) == (c : Int)) = false := by simp; omega
          clear hA hB hne
          go_wp2
          go_roundg ((chs p i).length - (k + 1))
          case measure => have := HG.out; omega
          case rel => exact ⟨k + 1, c, u, f, fa, fc, by omega, rfl, by go_num, HK3, HS4, HX3, HF3⟩
    · have HR : Hid (c = toC p i ∧ u = capW p i ∧ f = firsts p i) := by
        have := HST.out
        rw [List.take_of_length_le (by omega)] at this
        exact this.all hi
      obtain ⟨⟨x0, x1, x2⟩, y0, y1, y2⟩ := trio_cell HX.out
      have hqr : q < wr.heap.size := by omega
      have hor : w.heap.size < wr.heap.size := by omega
      have hoq : w.heap.size ≠ q := by omega
      have HO2 : Hid (wr.heap[w.heap.size]? = some (.cells #[.int .i64 0, .int .i64 0, .slice none 0 0] 157 (0, 0))) := by show _ = _; rw [HK.out.heap _ (by omega) hoq]; exact HO1.out
      obtain ⟨⟨o0, o1, o2⟩, o3, o4, o5⟩ := trio_cell HO2.out
      go_wp2
      have hbl : Below w.heap.size w wr := ⟨HK.out.os.trans HK1.out.os, HK.out.tape.trans HK1.out.tape, HK.out.output.trans HK1.out.output, by omega, fun k hk => (HK.out.heap k (by omega) (by omega)).trans (HK1.out.block k hk)⟩
      obtain ⟨⟨r0, r1, r2⟩, _⟩ := trio_cell (rest_set3 HO2.out (.int .i64 c) (.int .i64 u) (.slice fa f.length fc))
      refine bodyPost_ret (v := .agg #[.int .i64 c, .int .i64 u, .slice fa f.length fc]) (by simp [results, Tryz.results119, go_sem, r0, r1, r2]) rfl ?_
      obtain ⟨rfl, rfl, rfl⟩ := HR.out
      exact ⟨((hbl.setCell (by simp) _).setCell (by simp) _).setCell (by simp) _, _, rfl, row_less (row_under (row_under (row_under HF.out (by omega)) (by omega)) (by omega)) (by omega)⟩
end Go.Proofs.YtnpnaglgllcpfaaGreat
