/-
  The tokens that may stand at a place, in their order: best.choices.
-/
import Derived.Test.YtnpnaglgllcpfabBe
import Derived.BigRegion
import Derived.Laws.OwnMore
import Derived.OneCell
namespace Go.Proofs.Ytnpnaglgllcpfab
set_option maxRecDepth 100000
open Go.RowKit

/-- A block that a growing row of another type leaves as it is. -/
theorem block_grown {w w' : World} {q B n z : Nat} {e t : TypeId} {v : Value} {xs : List Value} {cs : Array Value} {m : Nat × Nat} (hx : w.heap[q]? = some (.cells cs t m)) (ho : w.ownsRow B e z v n xs) (hne : e ≠ t) (hg : w.grownBy w' v.ownBlock) : w'.heap[q]? = some (.cells cs t m) := by
  rw [hg.block q (Array.getElem?_eq_some_iff.1 hx).1 ?_]
  · exact hx
  · intro e'
    rcases ho.2 with ⟨rfl, _⟩ | ⟨g, cap, cur, rfl, _, hg', _⟩
    · simp [Value.ownBlock] at e'
    · simp [Value.ownBlock] at e'
      subst e'
      rw [hx] at hg'
      simp at hg'
      exact hne hg'.2.1.symm
/-- How far the copies from the distances 1 to D go lies in memory. -/
def ReachAt (w : World) (q : Nat) (p : List UInt8) (i D : Nat) : Prop :=
  ∃ cs : Array Value, w.heap[q]? = some (.cells cs 135 (0, 0)) ∧ cs.size = 33 ∧ ∀ d, 1 ≤ d → d ≤ D → cs[d]? = some (.int .i64 (alk p i d))
theorem reach_new {w : World} {o : Obj} {cs : Array Value} (p : List UInt8) (i : Nat) (h : cs.size = 33) : ReachAt ((w.alloc o).alloc (.cells cs 135)) (w.heap.size + 1) p i 0 := by
  refine ⟨cs, ?_, h, fun d h1 h2 => by omega⟩
  have := heap_alloc_new (w.alloc o) (.cells cs 135)
  rwa [show (w.alloc o).heap.size = w.heap.size + 1 by simp] at this
theorem ReachAt.cell {w : World} {q i D : Nat} {p : List UInt8} (h : ReachAt w q p i D) (d : Nat) (h1 : 1 ≤ d) (hd : d ≤ D) : w.cell? ⟨q, d, none⟩ = some (.int .i64 (alk p i d)) := by
  obtain ⟨cs, hx, _, h2⟩ := h
  simp [World.cell?, hx, h2 d h1 hd]
theorem ReachAt.any {w : World} {q i D : Nat} {p : List UInt8} (h : ReachAt w q p i D) (d : Nat) (hd : d ≤ 32) : (∃ y, w.cell? ⟨q, d, none⟩ = some y) ∧ w.frozen? ⟨q, d, none⟩ = false := by
  obtain ⟨cs, hx, h1, _⟩ := h
  exact ⟨⟨cs[d]'(by omega), by simp [World.cell?, hx, h1, show d < 33 by omega]⟩, by simp [World.frozen?, hx]⟩
theorem ReachAt.next {w : World} {q i D : Nat} {p : List UInt8} (h : ReachAt w q p i D) (hd : D + 1 ≤ 32) : ReachAt (w.setCell ⟨q, D + 1, none⟩ (.int .i64 (alk p i (D + 1)))) q p i (D + 1) := by
  obtain ⟨cs, hx, h1, h2⟩ := h
  refine ⟨_, set_block hx _, by simp [h1], fun d hd1 hd2 => ?_⟩
  rw [Array.getElem?_setIfInBounds]
  by_cases he : D + 1 = d
  · subst he; simp; omega
  · rw [if_neg he]; exact h2 d hd1 (by omega)
theorem ReachAt.same {w w' : World} {q i D : Nat} {p : List UInt8} (h : ReachAt w q p i D) (hk : w'.heap[q]? = w.heap[q]?) : ReachAt w' q p i D := by
  obtain ⟨cs, hx, r⟩ := h
  exact ⟨cs, by rw [hk]; exact hx, r⟩
theorem ReachAt.below_alloc {w : World} {q i D : Nat} {p : List UInt8} (h : ReachAt w q p i D) (o : Obj) : ReachAt (w.alloc o) q p i D := by
  obtain ⟨cs, hx, _⟩ := id h
  exact h.same (Below.heap_alloc w o q (Array.getElem?_eq_some_iff.1 hx).1)
theorem ReachAt.grown {w w' : World} {q i D B n z : Nat} {p : List UInt8} {v : Value} {xs : List Value} (h : ReachAt w q p i D) (ho : w.ownsRow B 60 z v n xs) (hg : w.grownBy w' v.ownBlock) : ReachAt w' q p i D := by
  obtain ⟨cs, hx, r⟩ := h
  exact ⟨cs, block_grown hx ho (by decide) hg, r⟩
theorem chIn_len (p : List UInt8) (i l D : Nat) : (chIn p i l D).length ≤ D := by
  unfold chIn
  rw [List.length_map]
  exact Nat.le_trans (List.length_filter_le _ _) (by simp)
theorem chTo_len (p : List UInt8) (i : Nat) : ∀ n, (chTo p i n).length ≤ 1 + 32 * n
  | 0 => by simp [chTo]
  | n + 1 => by
    have := chTo_len p i n
    have h2 := chIn_len p i (n + 2) (min 32 i)
    rw [chTo_succ, List.length_append]
    omega

set_option maxHeartbeats 2000000 in
theorem choices_calls (a : Option Addr) (p : List UInt8) (cap i : Nat) (w : World) (hp : p.length ≤ 64) (hb : BytesAt w a p) (hi : i < p.length) :
    Calls Try.prog 79 #[.slice a p.length cap, .int .i64 i] w fun e w' => Below w.heap.size w w' ∧ ∃ v, e = .returned v ∧ TokRow w' w.heap.size v (chs p i) := by
  have HB : Hid (BytesAt w a p) := hb
  obtain ⟨b, off, ha, hcell⟩ : ∃ b off, a = some ⟨b, off, none⟩ ∧ ∀ j, j < p.length → w.cell? ⟨b, off + j, none⟩ = some (.int .u8 (p.getD j 0).toNat) := by
    rcases hb with h | h
    · rw [h] at hi; simp at hi
    · exact h
  subst ha
  have c0 := hcell i hi
  clear hcell hb
  generalize hx : p.getD i 0 = x at *
  have HX : Hid (p.getD i 0 = x) := hx
  clear hx
  have hw64 : wrap64 (x.toNat : Int) = (x.toNat : Int) := IntWalk.wrap64_in _ ⟨by omega, by have := x.toNat_lt; omega⟩
  have HLIT : Hid (TokRow (w.alloc (.cells #[.int .i64 1, .int .i64 0, .int .i64 x.toNat] 60)) w.heap.size (.slice (some ⟨w.heap.size, 0, none⟩) 1 1) (chTo p i 0)) := by
    have := World.ownsRow_lit (e := 60) (size := 3) (base := w.heap.size) w #[.int .i64 1, .int .i64 0, .int .i64 x.toNat] 1 (Nat.le_refl _) (by unfold maxLen; omega) rfl
    show World.ownsRow _ _ _ _ _ _ _
    have hx := HX.out
    rw [← hx] at this ⊢
    simpa [chTo, literal, cellsT] using this
  obtain ⟨it, hti, htz0, htz1, htz2⟩ := info_parts infoTok
  go_enter Try.func79, Try.ntmps79
  have hiI : 0 ≤ (i : Int) ∧ (i : Int) < (p.length : Int) := by omega
  by_cases h32 : 32 < (i : Int)
  all_goals
    go_wp2_with fail
    obtain ⟨F, hF⟩ : ∃ F : Nat, F = min 32 i := ⟨_, rfl⟩
    have HR0 : Hid (ReachAt ((w.alloc (.cells #[.int .i64 1, .int .i64 0, .int .i64 x.toNat] 60)).alloc (.cells #[.int .i64 0, .int .i64 0, .int .i64 0, .int .i64 0, .int .i64 0, .int .i64 0, .int .i64 0, .int .i64 0, .int .i64 0, .int .i64 0, .int .i64 0, .int .i64 0, .int .i64 0, .int .i64 0, .int .i64 0, .int .i64 0, .int .i64 0, .int .i64 0, .int .i64 0, .int .i64 0, .int .i64 0, .int .i64 0, .int .i64 0, .int .i64 0, .int .i64 0, .int .i64 0, .int .i64 0, .int .i64 0, .int .i64 0, .int .i64 0, .int .i64 0, .int .i64 0, .int .i64 0] 135)) (w.heap.size + 1) p i 0) := reach_new p i rfl
    have HT0 : Hid (TokRow ((w.alloc (.cells #[.int .i64 1, .int .i64 0, .int .i64 x.toNat] 60)).alloc (.cells #[.int .i64 0, .int .i64 0, .int .i64 0, .int .i64 0, .int .i64 0, .int .i64 0, .int .i64 0, .int .i64 0, .int .i64 0, .int .i64 0, .int .i64 0, .int .i64 0, .int .i64 0, .int .i64 0, .int .i64 0, .int .i64 0, .int .i64 0, .int .i64 0, .int .i64 0, .int .i64 0, .int .i64 0, .int .i64 0, .int .i64 0, .int .i64 0, .int .i64 0, .int .i64 0, .int .i64 0, .int .i64 0, .int .i64 0, .int .i64 0, .int .i64 0, .int .i64 0, .int .i64 0] 135)) w.heap.size (.slice (some ⟨w.heap.size, 0, none⟩) 1 1) (chTo p i 0)) := TokRow.alloc HLIT.out _
    have HB0 : Hid (Below w.heap.size w ((w.alloc (.cells #[.int .i64 1, .int .i64 0, .int .i64 x.toNat] 60)).alloc (.cells #[.int .i64 0, .int .i64 0, .int .i64 0, .int .i64 0, .int .i64 0, .int .i64 0, .int .i64 0, .int .i64 0, .int .i64 0, .int .i64 0, .int .i64 0, .int .i64 0, .int .i64 0, .int .i64 0, .int .i64 0, .int .i64 0, .int .i64 0, .int .i64 0, .int .i64 0, .int .i64 0, .int .i64 0, .int .i64 0, .int .i64 0, .int .i64 0, .int .i64 0, .int .i64 0, .int .i64 0, .int .i64 0, .int .i64 0, .int .i64 0, .int .i64 0, .int .i64 0, .int .i64 0] 135))) := ((Below.refl _ _).alloc (Nat.le_refl _) _).alloc (by simp) _
    generalize ((w.alloc (.cells #[.int .i64 1, .int .i64 0, .int .i64 x.toNat] 60)).alloc (.cells #[.int .i64 0, .int .i64 0, .int .i64 0, .int .i64 0, .int .i64 0, .int .i64 0, .int .i64 0, .int .i64 0, .int .i64 0, .int .i64 0, .int .i64 0, .int .i64 0, .int .i64 0, .int .i64 0, .int .i64 0, .int .i64 0, .int .i64 0, .int .i64 0, .int .i64 0, .int .i64 0, .int .i64 0, .int .i64 0, .int .i64 0, .int .i64 0, .int .i64 0, .int .i64 0, .int .i64 0, .int .i64 0, .int .i64 0, .int .i64 0, .int .i64 0, .int .i64 0, .int .i64 0] 135)) = w1 at *
    clear HLIT c0 hw64
    go_loopg [8] 33 (fun g dv wr => ∃ (D : Nat), D ≤ F ∧ g = 33 - D ∧ dv = .int .i64 ((D : Int) + 1) ∧ Hid (ReachAt wr (w.heap.size + 1) p i D) ∧ Hid (TokRow wr w.heap.size (.slice (some ⟨w.heap.size, 0, none⟩) 1 1) (chTo p i 0)) ∧ Hid (Below w.heap.size w wr))
    case atStart => exact ⟨0, by omega, rfl, rfl, HR0, HT0, HB0⟩
    case round =>
      clear HR0 HT0 HB0
      obtain ⟨D, hD, hg, rfl, HR, HT, HW⟩ := hrel
      have HG : Hid (gk = 33 - D) := hg
      clear hg
      by_cases hlt : D < F
      · have hd1 : (D : Int) + 1 ≤ 32 := by omega
        have hd2 : (D : Int) + 1 ≤ (i : Int) := by omega
        have HC : Hid ((D : Int) + 1 = ((D + 1 : Nat) : Int)) := by show _ = _; omega
        go_wp2_with fail
        rw [HC.out]
        refine (same_is _ p cap i (D + 1) wr hp (bytesAt_below2 HB.out HW.out) (by omega) (by omega) (by omega)).mono ?_
        rintro e w4 ⟨rfl, nd, rfl⟩
        have HR4 : Hid (ReachAt (wr.drewN nd) (w.heap.size + 1) p i D) := HR.out.same rfl
        have HT4 : Hid (TokRow (wr.drewN nd) w.heap.size (.slice (some ⟨w.heap.size, 0, none⟩) 1 1) (chTo p i 0)) := HT.out
        have HW4 : Hid (Below w.heap.size w (wr.drewN nd)) := below_drewN HW.out nd
        generalize wr.drewN nd = w4 at *
        obtain ⟨⟨y, hy⟩, hfz⟩ := HR4.out.any (D + 1) (by omega)
        have HR5 : Hid (ReachAt (w4.setCell ⟨w.heap.size + 1, D + 1, none⟩ (.int .i64 (alk p i (D + 1)))) (w.heap.size + 1) p i (D + 1)) := HR4.out.next (by omega)
        have HT5 : Hid (TokRow (w4.setCell ⟨w.heap.size + 1, D + 1, none⟩ (.int .i64 (alk p i (D + 1)))) w.heap.size (.slice (some ⟨w.heap.size, 0, none⟩) 1 1) (chTo p i 0)) := ownsRow_setCell_other HT4.out (by simp [Value.ownBlock]) _
        have HW5 : Hid (Below w.heap.size w (w4.setCell ⟨w.heap.size + 1, D + 1, none⟩ (.int .i64 (alk p i (D + 1))))) := HW4.out.setCell (by simp only; omega) _
        have hdI : 0 ≤ (D : Int) + 1 ∧ (D : Int) + 1 < 33 := by omega
        have hdI2 : 0 ≤ ((D + 1 : Nat) : Int) ∧ ((D + 1 : Nat) : Int) < 33 := by omega
        clear HR HT HW HR4 HT4 HW4
        go_wp2
        go_roundg (33 - (D + 1))
        case measure => have := HG.out; omega
        case rel => exact ⟨D + 1, by omega, rfl, by go_num, HR5, HT5, HW5⟩
      · have hDF : D = F := by omega
        have HR1 : Hid (ReachAt wr (w.heap.size + 1) p i F) := by have := HR.out; rw [hDF] at this; exact this
        clear HR
        first | (have h9 : (32 : Int) < (i : Int) := h32; have h8 : ¬ (D : Int) + 1 ≤ 32 := (by omega)) | (have h8 : ¬ (D : Int) + 1 ≤ (i : Int) := by omega)
        go_wp2_with fail
        clear h8 hDF HG hlt
        go_loopg [5, 9] 65 (fun g v lv wr => ∃ (L : Nat), L ≤ p.length - i - 1 ∧ g = 65 - L ∧ lv = .int .i64 ((L : Int) + 2) ∧ Hid (ReachAt wr (w.heap.size + 1) p i F) ∧ Hid (TokRow wr w.heap.size v (chTo p i L)) ∧ Hid (Below w.heap.size w wr))
        case atStart => exact ⟨0, by omega, rfl, rfl, HR1, HT, HW⟩
        case round =>
          clear HR1 HT HW
          obtain ⟨L, hL, hg, rfl, HR, HT, HW⟩ := hrel
          have HG : Hid (gk = 65 - L) := hg
          clear hg
          obtain ⟨ao, cp, rfl⟩ := HT.out.form
          by_cases hlt : L < p.length - i - 1
          · have hl1 : (L : Int) + 2 ≤ (p.length : Int) - (i : Int) := by omega
            go_wp2_with fail
            go_loopg [5, 10] 33 (fun g v dv wr => ∃ (D : Nat), D ≤ F ∧ g = 33 - D ∧ dv = .int .i64 ((D : Int) + 1) ∧ Hid (ReachAt wr (w.heap.size + 1) p i F) ∧ Hid (TokRow wr w.heap.size v (chTo p i L ++ chIn p i (L + 2) D)) ∧ Hid (Below w.heap.size w wr))
            case atStart => exact ⟨0, by omega, rfl, rfl, HR, by show TokRow _ _ _ _; rw [show chIn p i (L + 2) 0 = [] from rfl, List.append_nil]; exact HT.out, HW⟩
            case round =>
              clear HR HT HW
              obtain ⟨D, hD, hg, rfl, HR, HT, HW⟩ := hrel
              have HG2 : Hid (gk = 33 - D) := hg
              clear hg
              obtain ⟨ao, cp, rfl⟩ := HT.out.form
              by_cases hlt : D < F
              · have hd1 : (D : Int) + 1 ≤ 32 := by omega
                have hd2 : (D : Int) + 1 ≤ (i : Int) := by omega
                have hc := HR.out.cell (D + 1) (by omega) (by omega)
                have hdI : 0 ≤ (D : Int) + 1 ∧ (D : Int) + 1 < 33 := by omega
                have hS := chIn_succ p i (L + 2) D
                have hlen : (chTo p i L ++ chIn p i (L + 2) D).length ≤ 1 + 32 * L + D := by
                  have h1 := chTo_len p i L
                  have h2 := chIn_len p i (L + 2) D
                  rw [List.length_append]; omega
                have hsz := HW.out.size
                by_cases hal : L + 2 ≤ alk p i (D + 1)
                · have hal' : (L : Int) + 2 ≤ (alk p i (D + 1) : Int) := by omega
                  rw [if_pos hal] at hS
                  have HS : Hid _ := hS
                  generalize alk p i (D + 1) = A at *
                  generalize hacc : chTo p i L ++ chIn p i (L + 2) D = acc at *
                  have HACC : Hid _ := hacc
                  clear hS hacc hal
                  go_wp2_with (at_builtin; refine wpList_append_own _ rfl _ _ 34 rfl w.heap.size 60 it (.agg #[.int .i64 0, .int .i64 0, .int .i64 0]) 3 24 Try.underlying34 hti htz0 htz1 htz2 rfl (by decide) _ _ _ rfl (TokRow.alloc HT.out _) ⟨wr.heap.size, 0, none⟩ 1 1 [.int .i64 ((L : Int) + 2), .int .i64 ((D : Int) + 1), .int .i64 0] rfl rfl ?b1 ?b2 ?b3 ?b4 ?b5 ?_)
                  case b1 => intro j u hj; exact cell_new3 _ _ _ _ _ j u hj
                  case b2 => intro u hu; simp at hu; rcases hu with rfl | rfl | rfl <;> rfl
                  case b3 => unfold maxLen; omega
                  case b4 => omega
                  case b5 => first | omega | (simp; omega)
                  intro v' w3 hown' hgrow _
                  have HW3 : Hid (Below w.heap.size w w3) := (HW.out.alloc hsz _).grown hgrow (by simp; omega) (fun k hk => (World.ownsRow.lt HT.out k hk).1)
                  have HR3 : Hid (ReachAt w3 (w.heap.size + 1) p i F) := (HR.out.below_alloc _).grown (TokRow.alloc HT.out _) hgrow
                  have HT3 : Hid (TokRow w3 w.heap.size v' (chTo p i L ++ chIn p i (L + 2) (D + 1))) := by
                    show w3.ownsRow _ _ _ _ _ _
                    rw [HS.out, ← List.append_assoc, HACC.out, cellsT_snoc, List.length_append]
                    exact hown'
                  clear hown' hgrow HR HT HW
                  go_wp2
                  go_roundg (33 - (D + 1))
                  case measure => have := HG2.out; omega
                  case rel => exact ⟨D + 1, by omega, rfl, by go_num, HR3, HT3, HW3⟩
                · have hal' : ¬ (L : Int) + 2 ≤ (alk p i (D + 1) : Int) := by omega
                  rw [if_neg hal, List.append_nil] at hS
                  have HT3 : Hid (TokRow wr w.heap.size (.slice ao (chTo p i L ++ chIn p i (L + 2) D).length cp) (chTo p i L ++ chIn p i (L + 2) (D + 1))) := by
                    show TokRow _ _ _ _
                    rw [hS]; exact HT.out
                  generalize alk p i (D + 1) = A at *
                  clear hS hal HT
                  generalize (chTo p i L ++ chIn p i (L + 2) D).length = NN at *
                  go_wp2
                  go_roundg (33 - (D + 1))
                  case measure => have := HG2.out; omega
                  case rel => exact ⟨D + 1, by omega, rfl, by go_num, HR, HT3, HW⟩
              · have hDF : D = min 32 i := by omega
                have HT1 : Hid (TokRow wr w.heap.size (.slice ao (chTo p i L ++ chIn p i (L + 2) D).length cp) (chTo p i (L + 1))) := by
                  have := HT.out
                  show TokRow _ _ _ _
                  rw [chTo_succ, ← hDF]
                  exact this
                clear HT
                first | (have h9 : (32 : Int) < (i : Int) := h32; have h8 : ¬ (D : Int) + 1 ≤ 32 := (by omega)) | (have h8 : ¬ (D : Int) + 1 ≤ (i : Int) := by omega)
                generalize (chTo p i L ++ chIn p i (L + 2) D).length = NN at *
                clear hDF
                go_wp2
                go_roundg (65 - (L + 1))
                case measure => have := HG.out; omega
                case rel => exact ⟨L + 1, by omega, rfl, by go_num, HR, HT1, HW⟩
          · have hl1 : ¬ (L : Int) + 2 ≤ (p.length : Int) - (i : Int) := by omega
            have HT1 : Hid (TokRow wr w.heap.size (.slice ao (chTo p i L).length cp) (chs p i)) := by
              have := HT.out
              show TokRow _ _ _ _
              unfold chs
              rw [show p.length - i - 1 = L by omega]
              exact this
            clear HT
            generalize (chTo p i L).length = NN at *
            go_wp2
            go_ret
            exact ⟨HW.out, _, rfl, HT1.out⟩
end Go.Proofs.Ytnpnaglgllcpfab
