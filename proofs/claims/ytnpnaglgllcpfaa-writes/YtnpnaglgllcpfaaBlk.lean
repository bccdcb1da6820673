/-
  The document's table of what is known, when nothing is.
-/
import Derived.Test.YtnpnaglgllcpfaaWid
import Derived.Laws.MakeOwn
namespace Go.Proofs.Ytnpnaglgllcpfaa
set_option maxRecDepth 100000
open Go.RowKit

theorem made_ints (m : Nat) : madeCells #[.int .i64 0] m = ints (List.replicate m 0) := by
  unfold ints
  rw [List.map_replicate]
  apply Array.ext
  · simp [madeCells]
  · intro i h1 h2
    simp [madeCells, Nat.mod_one]
/-- So far filled. -/
def filled (n k : Nat) : List Int := List.replicate k 1073741824 ++ List.replicate (n + 1 - k) 0
theorem filled_length (n k : Nat) (h : k ≤ n + 1) : (filled n k).length = n + 1 := by simp [filled]; omega
theorem filled_set (n k : Nat) (h : k < n + 1) : (filled n k).set k 1073741824 = filled n (k + 1) := by
  unfold filled
  obtain ⟨m, hm⟩ : ∃ m, n + 1 - k = m + 1 := ⟨n - k, by omega⟩
  rw [List.set_append, List.length_replicate, if_neg (by omega), Nat.sub_self, hm, show n + 1 - (k + 1) = m by omega, List.replicate_succ, List.replicate_succ' (n := k)]
  simp
theorem filled_all (n : Nat) : filled n (n + 1) = List.replicate (n + 1) 1073741824 := by simp [filled]
theorem filled_none (n : Nat) : filled n 0 = List.replicate (n + 1) 0 := by simp [filled]

theorem blank_new (w : World) (n a b : Nat) (hab : (a = w.heap.size ∧ b = w.heap.size + 1) ∨ (a = w.heap.size + 1 ∧ b = w.heap.size)) :
    KnownAt ((((w.alloc (.cells (ints (List.replicate (n + 1) 0)) 3)).alloc (.cells (ints (List.replicate (n + 1) 0)) 3)).alloc (.cells #[.slice (some ⟨a, 0, none⟩) (n + 1) (n + 1), .slice (some ⟨b, 0, none⟩) (n + 1) (n + 1)] 124)).drew) (w.heap.size + 1 + 1) a b (n + 1) (n + 1) (filled n 0) (List.replicate (n + 1) 0) := by
  have h1 := heap_alloc_new w (.cells (ints (List.replicate (n + 1) 0)) 3)
  have h2 := heap_alloc_new (w.alloc (.cells (ints (List.replicate (n + 1) 0)) 3)) (.cells (ints (List.replicate (n + 1) 0)) 3)
  have h3 := heap_alloc_new ((w.alloc (.cells (ints (List.replicate (n + 1) 0)) 3)).alloc (.cells (ints (List.replicate (n + 1) 0)) 3)) (.cells #[.slice (some ⟨a, 0, none⟩) (n + 1) (n + 1), .slice (some ⟨b, 0, none⟩) (n + 1) (n + 1)] 124)
  have e1 : ∀ o1 : Obj, (w.alloc o1).heap.size = w.heap.size + 1 := fun o1 => by simp
  have e2 : ∀ o1 o2 : Obj, ((w.alloc o1).alloc o2).heap.size = w.heap.size + 1 + 1 := fun o1 o2 => by simp
  rw [e1] at h2
  rw [e2] at h3
  have r1 : ∀ o3 : Obj, (((w.alloc (.cells (ints (List.replicate (n + 1) 0)) 3)).alloc (.cells (ints (List.replicate (n + 1) 0)) 3)).alloc o3).heap[w.heap.size]? = some (.cells (ints (List.replicate (n + 1) 0)) 3) := fun o3 => by
    rw [Below.heap_alloc _ o3 _ (by rw [e2]; omega), Below.heap_alloc _ _ _ (by rw [e1]; omega)]; exact h1
  have r2 : ∀ o3 : Obj, (((w.alloc (.cells (ints (List.replicate (n + 1) 0)) 3)).alloc (.cells (ints (List.replicate (n + 1) 0)) 3)).alloc o3).heap[w.heap.size + 1]? = some (.cells (ints (List.replicate (n + 1) 0)) 3) := fun o3 => by
    rw [Below.heap_alloc _ o3 _ (by rw [e2]; omega)]; exact h2
  rw [filled_none]
  rcases hab with ⟨rfl, rfl⟩ | ⟨rfl, rfl⟩
  · exact ⟨by rw [List.length_replicate]; exact h3, r1 _, r2 _, by omega, by omega, by omega⟩
  · exact ⟨by rw [List.length_replicate]; exact h3, r2 _, r1 _, by omega, by omega, by omega⟩

set_option maxHeartbeats 1000000 in
theorem blank_calls (n at' : Nat) (w : World) (hn : n ≤ 64) (ha : at' ≤ n) :
    Calls Try.prog 104 #[.int .i64 n, .int .i64 at'] w fun e w' => Below w.heap.size w w' ∧ ∃ q gc gw cc cw, w.heap.size ≤ q ∧ w.heap.size ≤ gc ∧ w.heap.size ≤ gw ∧ e = .returned (.pointer (some ⟨q, 0, none⟩)) ∧
      KnownAt w' q gc gw cc cw ((List.replicate (n + 1) 1073741824).set at' 0) ((List.replicate (n + 1) 0).set at' 1) := by
  obtain ⟨i0, hi, hz0, hz1, hz2⟩ := info_parts infoInt
  have hmk : ∀ wx : World, (Instr.makeSlice 54 (.int .i64 ((n : Int) + 1)) (.int .i64 ((n : Int) + 1))).run Try.prog wx = .ok (.slice (some ⟨wx.heap.size, 0, none⟩) (n + 1) (n + 1)) (wx.alloc (.cells (ints (List.replicate (n + 1) 0)) 3)) := fun wx => by
    have h := run_make (P := Try.prog) (w := wx) 54 3 i0 (.int .i64 0) Try.underlying54 hi hz0 .i64 .i64 ((n : Int) + 1) ((n : Int) + 1) (by omega) (by omega) (by rw [hz2]; omega) (by omega)
    rw [hz1, Nat.mul_one, show ((n : Int) + 1).toNat = n + 1 by omega] at h
    rw [← made_ints]
    exact h
  have hwr : IntKind.i64.wrap ((n : Int) + 1) = (n : Int) + 1 := wrapEq _ (by omega)
  have hmk2 := hmk
  rw [← hwr] at hmk2
  have HN1 : Hid _ := blank_new w n (w.heap.size) (w.heap.size + 1) (.inl ⟨rfl, rfl⟩)
  have HN2 : Hid _ := blank_new w n (w.heap.size + 1) (w.heap.size) (.inr ⟨rfl, rfl⟩)
  go_enter Try.func104, Try.ntmps104
  go_wp2_with fail
  have hn0 : 0 ≤ (n : Int) + 1 ∧ (n : Int) + 1 ≤ 65 := by omega
  go_region
  · have HB : Hid (Below w.heap.size w ((((w.alloc (.cells (ints (List.replicate (n + 1) 0)) 3)).alloc (.cells (ints (List.replicate (n + 1) 0)) 3)).alloc (.cells #[.slice (some ⟨w.heap.size, 0, none⟩) (n + 1) (n + 1), .slice (some ⟨w.heap.size + 1, 0, none⟩) (n + 1) (n + 1)] 124)).drew)) := ((((Below.refl _ _).alloc (Nat.le_refl _) _).alloc (by simp) _).alloc (by simp; omega) _).drew
    have HK : Hid (KnownAt ((((w.alloc (.cells (ints (List.replicate (n + 1) 0)) 3)).alloc (.cells (ints (List.replicate (n + 1) 0)) 3)).alloc (.cells #[.slice (some ⟨w.heap.size, 0, none⟩) (n + 1) (n + 1), .slice (some ⟨w.heap.size + 1, 0, none⟩) (n + 1) (n + 1)] 124)).drew) (w.heap.size + 1 + 1) (w.heap.size) (w.heap.size + 1) (n + 1) (n + 1) (filled n 0) (List.replicate (n + 1) 0)) := HN1.out
    clear HN1 HN2 hmk hmk2 hi hz0 hz1 hz2
    generalize ((((w.alloc (.cells (ints (List.replicate (n + 1) 0)) 3)).alloc (.cells (ints (List.replicate (n + 1) 0)) 3)).alloc (.cells #[.slice (some ⟨w.heap.size, 0, none⟩) (n + 1) (n + 1), .slice (some ⟨w.heap.size + 1, 0, none⟩) (n + 1) (n + 1)] 124)).drew) = W at *
    go_wp2_with fail
    go_loopw [6] (fun i wr => ∃ k : Nat, k ≤ n + 1 ∧ i = .int .i64 k ∧ Hid (KnownAt wr (w.heap.size + 1 + 1) (w.heap.size) (w.heap.size + 1) (n + 1) (n + 1) (filled n k) (List.replicate (n + 1) 0)) ∧ Hid (Below w.heap.size w wr)) (fun i _ => n + 1 - (intOf i).toNat)
    case atStart => exact ⟨0, by omega, rfl, HK, HB⟩
    case round =>
      obtain ⟨k, hk, rfl, hkn, hb⟩ := hrel
      by_cases hlt : k ≤ n
      · obtain ⟨c0, c1, c2, c3, f2, f3⟩ := hkn.out.cells k (by rw [filled_length n k hk]; omega) (by simp; omega)
        rw [filled_length n k hk] at c0
        have HK2 : Hid (KnownAt (wr.setCell ⟨w.heap.size, k, none⟩ (.int .i64 1073741824)) (w.heap.size + 1 + 1) (w.heap.size) (w.heap.size + 1) (n + 1) (n + 1) (filled n (k + 1)) (List.replicate (n + 1) 0)) := by
          have := hkn.out.setC k 1073741824
          rw [filled_set n k (by omega)] at this
          exact this
        generalize (filled n k).getD k 0 = x at *
        clear c1 c3 f3
        have hix : 0 ≤ (k : Int) ∧ (k : Int) < ((n + 1 : Nat) : Int) := by omega
        go_wp2
        go_roundw
        case rel => exact ⟨k + 1, by omega, by go_num, HK2, hb.out.setCell (by simp only; omega) _⟩
        case measure => simp [intOf]; omega
      · have hke : k = n + 1 := by omega
        subst hke
        have HK0 : Hid (KnownAt wr (w.heap.size + 1 + 1) (w.heap.size) (w.heap.size + 1) (n + 1) (n + 1) (List.replicate (n + 1) 1073741824) (List.replicate (n + 1) 0)) := by
          have := hkn.out
          rw [filled_all] at this
          exact this
        clear hkn
        obtain ⟨c0, c1, c2, c3, f2, f3⟩ := HK0.out.cells at' (by simp; omega) (by simp; omega)
        obtain ⟨d0, d1, d2, d3, g2, g3⟩ := (HK0.out.setC at' 0).cells at' (by simp; omega) (by simp; omega)
        rw [List.length_replicate] at c0 d1
        generalize (List.replicate (n + 1) (1073741824 : Int)).getD at' 0 = x at *
        generalize (List.replicate (n + 1) (0 : Int)).getD at' 0 = y at *
        clear c1 c3 f3 d0 d2 g2
        have hix : 0 ≤ (at' : Int) ∧ (at' : Int) < ((n + 1 : Nat) : Int) := by omega
        go_wp2
        go_ret
        exact ⟨(hb.out.setCell (by simp only; omega) _).setCell (by simp only; omega) _, _, _, _, _, _, by omega, by omega, by omega, rfl, (HK0.out.setC at' 0).setW at' 1⟩
  · have HB : Hid (Below w.heap.size w ((((w.alloc (.cells (ints (List.replicate (n + 1) 0)) 3)).alloc (.cells (ints (List.replicate (n + 1) 0)) 3)).alloc (.cells #[.slice (some ⟨w.heap.size + 1, 0, none⟩) (n + 1) (n + 1), .slice (some ⟨w.heap.size, 0, none⟩) (n + 1) (n + 1)] 124)).drew)) := ((((Below.refl _ _).alloc (Nat.le_refl _) _).alloc (by simp) _).alloc (by simp; omega) _).drew
    have HK : Hid (KnownAt ((((w.alloc (.cells (ints (List.replicate (n + 1) 0)) 3)).alloc (.cells (ints (List.replicate (n + 1) 0)) 3)).alloc (.cells #[.slice (some ⟨w.heap.size + 1, 0, none⟩) (n + 1) (n + 1), .slice (some ⟨w.heap.size, 0, none⟩) (n + 1) (n + 1)] 124)).drew) (w.heap.size + 1 + 1) (w.heap.size + 1) (w.heap.size) (n + 1) (n + 1) (filled n 0) (List.replicate (n + 1) 0)) := HN2.out
    clear HN1 HN2 hmk hmk2 hi hz0 hz1 hz2
    generalize ((((w.alloc (.cells (ints (List.replicate (n + 1) 0)) 3)).alloc (.cells (ints (List.replicate (n + 1) 0)) 3)).alloc (.cells #[.slice (some ⟨w.heap.size + 1, 0, none⟩) (n + 1) (n + 1), .slice (some ⟨w.heap.size, 0, none⟩) (n + 1) (n + 1)] 124)).drew) = W at *
    go_wp2_with fail
    go_loopw [6] (fun i wr => ∃ k : Nat, k ≤ n + 1 ∧ i = .int .i64 k ∧ Hid (KnownAt wr (w.heap.size + 1 + 1) (w.heap.size + 1) (w.heap.size) (n + 1) (n + 1) (filled n k) (List.replicate (n + 1) 0)) ∧ Hid (Below w.heap.size w wr)) (fun i _ => n + 1 - (intOf i).toNat)
    case atStart => exact ⟨0, by omega, rfl, HK, HB⟩
    case round =>
      obtain ⟨k, hk, rfl, hkn, hb⟩ := hrel
      by_cases hlt : k ≤ n
      · obtain ⟨c0, c1, c2, c3, f2, f3⟩ := hkn.out.cells k (by rw [filled_length n k hk]; omega) (by simp; omega)
        rw [filled_length n k hk] at c0
        have HK2 : Hid (KnownAt (wr.setCell ⟨w.heap.size + 1, k, none⟩ (.int .i64 1073741824)) (w.heap.size + 1 + 1) (w.heap.size + 1) (w.heap.size) (n + 1) (n + 1) (filled n (k + 1)) (List.replicate (n + 1) 0)) := by
          have := hkn.out.setC k 1073741824
          rw [filled_set n k (by omega)] at this
          exact this
        generalize (filled n k).getD k 0 = x at *
        clear c1 c3 f3
        have hix : 0 ≤ (k : Int) ∧ (k : Int) < ((n + 1 : Nat) : Int) := by omega
        go_wp2
        go_roundw
        case rel => exact ⟨k + 1, by omega, by go_num, HK2, hb.out.setCell (by simp only; omega) _⟩
        case measure => simp [intOf]; omega
      · have hke : k = n + 1 := by omega
        subst hke
        have HK0 : Hid (KnownAt wr (w.heap.size + 1 + 1) (w.heap.size + 1) (w.heap.size) (n + 1) (n + 1) (List.replicate (n + 1) 1073741824) (List.replicate (n + 1) 0)) := by
          have := hkn.out
          rw [filled_all] at this
          exact this
        clear hkn
        obtain ⟨c0, c1, c2, c3, f2, f3⟩ := HK0.out.cells at' (by simp; omega) (by simp; omega)
        obtain ⟨d0, d1, d2, d3, g2, g3⟩ := (HK0.out.setC at' 0).cells at' (by simp; omega) (by simp; omega)
        rw [List.length_replicate] at c0 d1
        generalize (List.replicate (n + 1) (1073741824 : Int)).getD at' 0 = x at *
        generalize (List.replicate (n + 1) (0 : Int)).getD at' 0 = y at *
        clear c1 c3 f3 d0 d2 g2
        have hix : 0 ≤ (at' : Int) ∧ (at' : Int) < ((n + 1 : Nat) : Int) := by omega
        go_wp2
        go_ret
        exact ⟨(hb.out.setCell (by simp only; omega) _).setCell (by simp only; omega) _, _, _, _, _, _, by omega, by omega, by omega, rfl, (HK0.out.setC at' 0).setW at' 1⟩
end Go.Proofs.Ytnpnaglgllcpfaa
