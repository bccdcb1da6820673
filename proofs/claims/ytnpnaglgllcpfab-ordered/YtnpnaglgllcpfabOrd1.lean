/-
  The law Ordered: presskeep.before.
-/
import Derived.Test.YtnpnaglgllcpfabOrd0
import Derived.Test.YtnpnaglgllcpfabKq
namespace Go.Proofs.Ytnpnaglgllcpfab
set_option maxRecDepth 100000
open Go.RowKit

theorem toksAt_cells {w : World} {a : Option Addr} {ts : List Tok} (h : ToksAt w a ts) {k : Nat} (hk : k < ts.length) : ∃ b off, a = some ⟨b, off, none⟩ ∧ b < w.heap.size ∧
    w.cell? ⟨b, off + k * 3, none⟩ = some (.int .i64 ts[k].len) ∧ w.cell? ⟨b, off + k * 3 + 1, none⟩ = some (.int .i64 ts[k].dist) ∧ w.cell? ⟨b, off + k * 3 + 2, none⟩ = some (.int .i64 ts[k].byte) := by
  rcases h with h | ⟨b, off, h1, h2, h3⟩
  · rw [h] at hk; simp at hk
  · exact ⟨b, off, h1, h2, h3 k hk⟩
theorem beforeL_drop {xs ys : List Tok} {k : Nat} (h : beforeL (xs.drop k) (ys.drop k) = true) : ∃ (h1 : k < xs.length) (h2 : k < ys.length),
    (xs[k].len = ys[k].len ∧ xs[k].dist = ys[k].dist ∧ beforeL (xs.drop (k + 1)) (ys.drop (k + 1)) = true) ∨
    (¬ (xs[k].len = ys[k].len ∧ xs[k].dist = ys[k].dist) ∧ xs[k].dist = 0) ∨
    (¬ (xs[k].len = ys[k].len ∧ xs[k].dist = ys[k].dist) ∧ xs[k].dist ≠ 0 ∧ ys[k].dist ≠ 0 ∧ (xs[k].len < ys[k].len ∨ (xs[k].len = ys[k].len ∧ xs[k].dist < ys[k].dist))) := by
  rcases Nat.lt_or_ge k xs.length with h1 | h1
  · rcases Nat.lt_or_ge k ys.length with h2 | h2
    · refine ⟨h1, h2, ?_⟩
      rw [List.drop_eq_getElem_cons h1, List.drop_eq_getElem_cons h2] at h
      simp only [beforeL] at h
      split at h
      · rename_i hs; exact .inl ⟨hs.1, hs.2, h⟩
      · rename_i hs
        split at h
        · rename_i hz
          exact .inr (.inl ⟨hs, by simpa using h⟩)
        · rename_i hz
          exact .inr (.inr ⟨hs, by omega, by omega, by simpa using h⟩)
    · rw [List.drop_eq_nil_of_le h2] at h
      cases hx : xs.drop k <;> rw [hx] at h <;> simp [beforeL] at h
  · rw [List.drop_eq_nil_of_le h1] at h
    simp [beforeL] at h

set_option maxHeartbeats 1000000 in
theorem kbefore_calls (a b : Option Addr) (xs ys : List Tok) (ca cb : Nat) (w : World) (hl : xs.length ≤ 9223372036854775807) (_hl' : ys.length ≤ 9223372036854775807) (ht : ToksAt w a xs) (ht' : ToksAt w b ys) (hbf : beforeL xs ys = true) :
    Calls Try.prog 27 #[.slice a xs.length ca, .slice b ys.length cb] w fun e w' => Below w.heap.size w w' ∧ e = .returned (.bool true) := by
  have HT : Hid (ToksAt w a xs) := ht
  have HT' : Hid (ToksAt w b ys) := ht'
  have HBF : Hid (beforeL (xs.drop 0) (ys.drop 0) = true) := hbf
  clear ht ht' hbf
  go_enter Try.func27, Try.ntmps27
  go_wp2_with fail
  go_loopg [5] xs.length (fun g iv wr => ∃ k : Nat, k ≤ xs.length ∧ g = xs.length - k ∧ iv = .int .i64 k ∧ Hid (beforeL (xs.drop k) (ys.drop k) = true) ∧ Hid (Below w.heap.size w wr))
  case atStart => exact ⟨0, by omega, rfl, rfl, HBF, Below.refl _ _⟩
  case round =>
    obtain ⟨k, hk, hg, rfl, HL, HBW⟩ := hrel
    have HG : Hid _ := hg
    obtain ⟨h1, h2, hcases⟩ := beforeL_drop HL.out
    obtain ⟨ba, oa, rfl, hba, x0, x1, x2⟩ := toksAt_cells (HT.out.below HBW.out) h1
    obtain ⟨bb, ob, rfl, hbb, y0, y1, y2⟩ := toksAt_cells (HT'.out.below HBW.out) h2
    clear hg HBF
    generalize xs[k] = x at *
    generalize ys[k] = y at *
    obtain ⟨xl, xd, xb⟩ := x
    obtain ⟨yl, yd, yb⟩ := y
    simp only at x0 x1 x2 y0 y1 y2 hcases
    have hix : 0 ≤ (k : Int) ∧ (k : Int) < (xs.length : Int) := by omega
    have hiy : 0 ≤ (k : Int) ∧ (k : Int) < (ys.length : Int) := by omega
    have HAL : Hid (∀ o1 o2 : Obj, Below w.heap.size w ((wr.alloc o1).alloc o2)) := fun o1 o2 => (HBW.out.alloc HBW.out.size _).alloc (by have := HBW.out.size; simp; omega) _
    rcases hcases with ⟨rfl, rfl, hnx⟩ | ⟨hne, rfl⟩ | ⟨hne, hx, hy, hlt⟩
    · have HNX : Hid _ := hnx
      clear hnx
      go_wp2
      go_roundg (xs.length - (k + 1))
      case measure => have := HG.out; omega
      case rel => exact ⟨k + 1, by omega, rfl, by go_num, HNX, HAL.out _ _⟩
    · by_cases hll : xl = yl
      · subst hll
        have hdd : ((0 : Int) == yd) = false := by simp; omega
        clear hne
        go_wp2
        go_ret
        exact ⟨HAL.out _ _, rfl⟩
      · have hle : (xl == yl) = false := by simp [hll]
        clear hne
        go_wp2
        go_ret
        exact ⟨HAL.out _ _, rfl⟩
    · have hx0 : (xd == 0) = false := by simp [hx]
      have hy0 : (yd == 0) = false := by simp [hy]
      rcases hlt with hlt | ⟨rfl, hlt⟩
      · have hle : (xl == yl) = false := by simp; omega
        clear hne
        go_wp2
        go_ret
        exact ⟨HAL.out _ _, rfl⟩
      · have hle : (xd == yd) = false := by simp; omega
        have hnl : ¬ xl < xl := by omega
        clear hne
        go_wp2
        go_ret
        exact ⟨HAL.out _ _, rfl⟩
end Go.Proofs.Ytnpnaglgllcpfab
