/-
  How far a copy goes: best.same; counts added: best.added.
-/
import Derived.Test.YtnpnaglgllcpfabBpl
namespace Go.Proofs.Ytnpnaglgllcpfab
set_option maxRecDepth 100000
open Go.RowKit

set_option maxHeartbeats 1000000 in
theorem bsame_calls (a : Option Addr) (p : List UInt8) (cap i d : Nat) (w : World) (hp : p.length ≤ 64) (hb : BytesAt w a p) (hi : i ≤ p.length) (hd : d ≤ i) (hd1 : 1 ≤ d) :
    Calls Try.prog 86 #[.slice a p.length cap, .int .i64 i, .int .i64 d] w fun e w' => (∃ n : Nat, e = .returned (.int .i64 n) ∧ AlikeMost p i d n) ∧ ∃ n, w' = w.drewN n := by
  have HB : Hid (BytesAt w a p) := hb
  clear hb
  go_enter Try.func86, Try.ntmps86
  go_wp2
  go_loopw [7] (fun v wr => ∃ (n : Nat), v = .int .i64 n ∧ i + n ≤ p.length ∧ Hid (Alike p i d n) ∧ ∃ nd, wr = w.drewN nd) (fun v _ => p.length - (intOf v).toNat)
  case atStart => exact ⟨0, rfl, by omega, ⟨by omega, fun m hm => by omega⟩, 0, rfl⟩
  case round =>
    obtain ⟨n, rfl, hn, hal, nd, rfl⟩ := hrel
    by_cases hlt : i + n < p.length
    · obtain ⟨b, off, ha, hcell⟩ : ∃ b off, a = some ⟨b, off, none⟩ ∧ ∀ j, j < p.length → w.cell? ⟨b, off + j, none⟩ = some (.int .u8 (p.getD j 0).toNat) := by
        rcases HB.out with h | h
        · rw [h] at hlt; simp at hlt
        · exact h
      subst ha
      have c0 : (w.drewN nd).cell? ⟨b, off + (i + n), none⟩ = some (.int .u8 (p.getD (i + n) 0).toNat) := hcell (i + n) hlt
      have c1 : (w.drewN nd).cell? ⟨b, off + (i + n - d), none⟩ = some (.int .u8 (p.getD (i + n - d) 0).toNat) := hcell (i + n - d) (by omega)
      clear hcell
      have hix : 0 ≤ (i : Int) + (n : Int) ∧ (i : Int) + (n : Int) < (p.length : Int) := by omega
      have hix2 : 0 ≤ (i : Int) + (n : Int) - (d : Int) ∧ (i : Int) + (n : Int) - (d : Int) < (p.length : Int) := by omega
      have hlt' : (i : Int) + (n : Int) < (p.length : Int) := by omega
      generalize hw0 : w.drewN nd = w0 at *
      have HW0 : Hid (w.drewN nd = w0) := hw0
      clear hw0
      generalize hx : p.getD (i + n) 0 = x at *
      generalize hy : p.getD (i + n - d) 0 = y at *
      have HX : Hid (p.getD (i + n) 0 = x) := hx
      have HY : Hid (p.getD (i + n - d) 0 = y) := hy
      clear hx hy
      by_cases hxy : x = y
      · have hb : ((x.toNat : Int) == (y.toNat : Int)) = true := by simp [hxy]
        have HN : Hid (Alike p i d (n + 1)) := by
          refine ⟨by omega, fun m hm => ?_⟩
          rcases Nat.lt_or_ge m n with h | h
          · exact hal.out.2 m h
          · have : m = n := by omega
            subst this
            rw [HX.out, HY.out, hxy]
        clear hxy
        go_wp2_with fail
        go_quiet (fail)
        go_wp2
        go_roundw
        case rel => exact ⟨n + 1, by go_num, by omega, HN, _, by rw [← HW0.out, World.drewN_drewN]⟩
        case measure => simp [intOf]; omega
      · have hb : ((x.toNat : Int) == (y.toNat : Int)) = false := by
          simp only [beq_eq_false_iff_ne, ne_eq]
          intro h
          exact hxy (UInt8.toNat_inj.1 (by omega))
        have HN : Hid (AlikeMost p i d n) := ⟨hal.out, .inr (by rw [HX.out, HY.out]; exact hxy)⟩
        clear hxy
        go_wp2_with fail
        go_quiet (fail)
        go_wp2
        go_ret
        exact ⟨⟨n, rfl, HN.out⟩, _, by rw [← HW0.out, World.drewN_drewN]⟩
    · have hf : decide ((i : Int) + (n : Int) < (p.length : Int)) = false := by simp; omega
      have HN : Hid (AlikeMost p i d n) := ⟨hal.out, .inl (by omega)⟩
      go_wp2_with fail
      go_quiet (fail)
      go_wp2
      go_ret
      exact ⟨⟨n, rfl, HN.out⟩, _, World.drewN_drewN _ _ _⟩
theorem same_is (a : Option Addr) (p : List UInt8) (cap i d : Nat) (w : World) (hp : p.length ≤ 64) (hb : BytesAt w a p) (hi : i ≤ p.length) (hd : d ≤ i) (hd1 : 1 ≤ d) :
    Calls Try.prog 86 #[.slice a p.length cap, .int .i64 i, .int .i64 d] w fun e w' => e = .returned (.int .i64 (alk p i d)) ∧ ∃ n, w' = w.drewN n := by
  refine (bsame_calls a p cap i d w hp hb hi hd hd1).mono ?_
  rintro e w' ⟨⟨n, rfl, hn⟩, h⟩
  exact ⟨by rw [hn.eq (alk_most p i d hi)], h⟩
theorem added_calls (a b : Nat) (w : World) (ha : a ≤ 1000000000) (hb : b ≤ 1000000000) :
    Calls Try.prog 80 #[.int .i64 a, .int .i64 b] w fun e w' => e = .returned (.int .i64 ((min (a + b) 1000000000 : Nat) : Int)) ∧ w' = w := by
  go_enter Try.func80, Try.ntmps80
  by_cases h : 1000000000 < a + b
  · have hm : min (a + b) 1000000000 = 1000000000 := by omega
    rw [hm]
    have h1 : 1000000000 - (b : Int) < (a : Int) := by omega
    go_wp2
    go_ret
    exact ⟨rfl, rfl⟩
  · have hm : min (a + b) 1000000000 = a + b := by omega
    rw [hm]
    have h1 : ¬ 1000000000 - (b : Int) < (a : Int) := by omega
    go_wp2
    go_ret
    exact ⟨by go_num, rfl⟩
end Go.Proofs.Ytnpnaglgllcpfab
