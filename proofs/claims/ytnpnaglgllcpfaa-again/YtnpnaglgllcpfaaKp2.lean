/-
  Tokens that the laws draw out of raw numbers: they are right, and make so many bytes.
-/
import Derived.Test.YtnpnaglgllcpfaaKp
import Derived.Test.YtnpnaglgllcpfaaRound2
import Derived.BigRegion
namespace Go.Proofs.Ytnpnaglgllcpfaa
set_option maxRecDepth 100000
open Go.RowKit

set_option maxHeartbeats 2000000 in
theorem drawn_calls (n : Nat) (a : Option Addr) (raw : List Int) (cap : Nat) (k : Nat) (w : World) (hn : n ≤ 64) (hk : k ≤ 1000) (hl : raw.length ≤ 9223372036854775807) (ht : RawAt w a raw) :
    Calls Try.prog 33 #[.int .i64 n, .slice a raw.length cap, .int .i64 k] w fun e w' => Below w.heap.size w w' ∧ ∃ v ts out, e = .returned v ∧ TokRow w' w.heap.size v ts ∧ Tok.expand [] ts = some out ∧ out.length = n := by
  have HT : Hid (RawAt w a raw) := ht
  clear ht
  obtain ⟨i0, hi, hz0, hz1, hz2⟩ := info_parts infoTok
  go_enter Try.func33, Try.ntmps33
  go_wp2
  go_loopw [2, 7, 8] (fun kk v sz wr => ∃ (m s : Nat) (acc : List Tok) (out : List UInt8), m ≤ 1000 + s ∧ kk = .int .i64 m ∧ sz = .int .i64 s ∧ s ≤ n ∧ Hid (Tok.expand [] acc = some out) ∧ out.length = s ∧ acc.length ≤ 64 ∧ TokRow wr w.heap.size v acc ∧ Below w.heap.size w wr) (fun _ _ sz _ => n - (intOf sz).toNat)
  case atStart => exact ⟨k, 0, [], [], by omega, rfl, rfl, by omega, rfl, rfl, by simp, World.ownsRow_nil _ _ _ _, Below.refl _ _⟩
  case round =>
    obtain ⟨m, s, acc, out, hm, rfl, rfl, hs, hex, hol, hal, hrow, hb⟩ := hrel
    by_cases hlt : s < n
    · have HROW : Hid (TokRow wr w.heap.size _ acc) := hrow
      have HB : Hid (Below w.heap.size w wr) := hb
      obtain ⟨ao, cp, rfl⟩ := hrow.form
      clear hrow hb
      go_wp2_with fail
      refine (at_calls a raw cap m _ hl (HT.out.below HB.out) (by omega) (by omega)).mono ?_
      rintro e w1 ⟨⟨r, hr, rfl⟩, nd, rfl⟩
      have HR : Hid (In64 r) := hr
      clear hr
      have HROW1 : Hid (TokRow (wr.drewN nd) w.heap.size (.slice ao acc.length cp) acc) := TokRow.below HROW.out (below_drewN (Below.refl _ _) _)
      have HB1 : Hid (Below w.heap.size w (wr.drewN nd)) := below_drewN HB.out _
      clear HROW HB
      generalize wr.drewN nd = w1 at *
      go_wp2_with fail
      refine (pick_calls r _ _ HR.out (by omega) (by omega)).mono ?_
      rintro e w2 ⟨⟨u, hu0, hu1, rfl⟩, rfl⟩
      obtain ⟨U, rfl⟩ := Int.eq_ofNat_of_zero_le hu0
      have hU : U ≤ 9223372036854775807 := by omega
      clear hu0 hu1
      by_cases hcopy : 0 < U % 3 ∧ 0 < s ∧ 1 < n - s
      · obtain ⟨h3, hs0, hns⟩ := hcopy
        have q1 : 0 ≤ (U : Int) / 3 % (s : Int) := Int.emod_nonneg _ (by omega)
        have q2 : (U : Int) / 3 % (s : Int) < s := Int.emod_lt_of_pos _ (by omega)
        have q3 : 0 ≤ (U : Int) / 100 % ((n : Int) - (s : Int) - 1) := Int.emod_nonneg _ (by omega)
        have q4 : (U : Int) / 100 % ((n : Int) - (s : Int) - 1) < (n : Int) - (s : Int) - 1 := Int.emod_lt_of_pos _ (by omega)
        have h3' : 0 < (U : Int) % 3 := by omega
        have hs0' : 0 < (s : Int) := by omega
        have hns' : 1 < (n : Int) - (s : Int) := by omega
        by_cases h32 : 32 < s
        · go_wp2_with fail
          go_region
          generalize hll : 2 + (U : Int) / 100 % ((n : Int) - (s : Int) - 1) = l at *
          generalize hdd : 1 + (U : Int) / 3 % 32 = d at *
          have HWB : Hid (Below w2.heap.size w2 (w2.alloc (.cells #[.int .i64 l, .int .i64 d, .int .i64 0] 98)).drew) := ((Below.refl _ _).alloc (Nat.le_refl _) _).drew
          have HBX : Hid (Box (w2.alloc (.cells #[.int .i64 l, .int .i64 d, .int .i64 0] 98)).drew w2.heap.size l d 0) := heap_alloc_new w2 _
          have HZW : Hid ((w2.alloc (.cells #[.int .i64 l, .int .i64 d, .int .i64 0] 98)).drew.heap.size = w2.heap.size + 1) := by show (w2.alloc _).heap.size = _; simp
          generalize hWW : (w2.alloc (.cells #[.int .i64 l, .int .i64 d, .int .i64 0] 98)).drew = W at *
          clear hWW
          have HRW : Hid (TokRow W w.heap.size (.slice ao acc.length cp) acc) := TokRow.below HROW1.out HWB.out
          obtain ⟨y0, y1, y2⟩ := HBX.out.cell
          go_wp2_with (at_builtin; refine wpList_append_own _ rfl (.tmp 55) (.tmp 57) 25 rfl w.heap.size 98 i0 (.agg #[.int .i64 0, .int .i64 0, .int .i64 0]) 3 24 Try.underlying25 hi hz0 hz1 hz2 rfl (by decide) _ _ _ rfl (TokRow.alloc HRW.out _) ⟨W.heap.size, 0, none⟩ 1 1 [.int .i64 l, .int .i64 d, .int .i64 0] rfl rfl ?a1 ?a2 ?a3 ?a4 ?a5 ?_)
          case a1 => intro j u hj; exact cell_new3 _ _ _ _ _ j u hj
          case a2 => intro u hu; simp at hu; rcases hu with rfl | rfl | rfl <;> rfl
          case a3 => unfold maxLen; omega
          case a4 => omega
          case a5 => have h1 := HZW.out; have h2 := HB1.out.size; simp at h1 ⊢; omega
          intro v' w3 hown' hgrow _
          obtain ⟨hb3, hx3, hz3⟩ := dr_append HROW1.out HB1.out HWB.out HBX.out HZW.out hgrow
          obtain ⟨b0, b1, b2⟩ := hx3.cell
          have HR3 : Hid (TokRow w3 w.heap.size v' (acc ++ [⟨l, d, 0⟩])) := by
            show w3.ownsRow _ _ _ _ _ _
            rw [cellsT_snoc, List.length_append]
            exact hown'
          have HB3 : Hid (Below w.heap.size w w3) := hb3
          clear hown' hgrow hx3 hb3
          go_wp2
          obtain ⟨k', hkk⟩ : ∃ k : Nat, (s : Int) + l = (k : Int) := ⟨s + l.toNat, by omega⟩
          rw [hkk]
          have hfit : Tok.fitsB ⟨l, d, 0⟩ out.length = true := (Tok.fits_iff _ _).2 (show (((d : Int) = 0 ∧ (l : Int) = 1 ∧ (0 : Int) ≤ (0 : Int) ∧ (0 : Int) ≤ 255) ∨ (1 ≤ (d : Int) ∧ (d : Int) ≤ 32 ∧ 2 ≤ (l : Int) ∧ (0 : Int) = (0 : Int))) ∧ d ≤ (out.length : Int) ∧ (l : Int) ≤ 64 - (out.length : Int) by omega)
          have hsl := Tok.step_length out ⟨l, d, 0⟩ _ hfit
          simp only at hsl
          go_roundw
          case rel => exact ⟨m + 1, k', acc ++ [⟨l, d, 0⟩], Tok.step out ⟨l, d, 0⟩, by omega, by go_num, rfl, by omega, by show _ = _; rw [Tok.expand_append, hex.out]; simp [Tok.expand, hfit], by omega, by have := Tok.expand_many acc [] out hex.out; simp at this ⊢; omega, HR3.out, HB3.out⟩
          case measure => simp [intOf]; omega
        · go_wp2_with fail
          go_region
          generalize hll : 2 + (U : Int) / 100 % ((n : Int) - (s : Int) - 1) = l at *
          generalize hdd : 1 + (U : Int) / 3 % (s : Int) = d at *
          have HWB : Hid (Below w2.heap.size w2 (w2.alloc (.cells #[.int .i64 l, .int .i64 d, .int .i64 0] 98)).drew) := ((Below.refl _ _).alloc (Nat.le_refl _) _).drew
          have HBX : Hid (Box (w2.alloc (.cells #[.int .i64 l, .int .i64 d, .int .i64 0] 98)).drew w2.heap.size l d 0) := heap_alloc_new w2 _
          have HZW : Hid ((w2.alloc (.cells #[.int .i64 l, .int .i64 d, .int .i64 0] 98)).drew.heap.size = w2.heap.size + 1) := by show (w2.alloc _).heap.size = _; simp
          generalize hWW : (w2.alloc (.cells #[.int .i64 l, .int .i64 d, .int .i64 0] 98)).drew = W at *
          clear hWW
          have HRW : Hid (TokRow W w.heap.size (.slice ao acc.length cp) acc) := TokRow.below HROW1.out HWB.out
          obtain ⟨y0, y1, y2⟩ := HBX.out.cell
          go_wp2_with (at_builtin; refine wpList_append_own _ rfl (.tmp 55) (.tmp 57) 25 rfl w.heap.size 98 i0 (.agg #[.int .i64 0, .int .i64 0, .int .i64 0]) 3 24 Try.underlying25 hi hz0 hz1 hz2 rfl (by decide) _ _ _ rfl (TokRow.alloc HRW.out _) ⟨W.heap.size, 0, none⟩ 1 1 [.int .i64 l, .int .i64 d, .int .i64 0] rfl rfl ?a1 ?a2 ?a3 ?a4 ?a5 ?_)
          case a1 => intro j u hj; exact cell_new3 _ _ _ _ _ j u hj
          case a2 => intro u hu; simp at hu; rcases hu with rfl | rfl | rfl <;> rfl
          case a3 => unfold maxLen; omega
          case a4 => omega
          case a5 => have h1 := HZW.out; have h2 := HB1.out.size; simp at h1 ⊢; omega
          intro v' w3 hown' hgrow _
          obtain ⟨hb3, hx3, hz3⟩ := dr_append HROW1.out HB1.out HWB.out HBX.out HZW.out hgrow
          obtain ⟨b0, b1, b2⟩ := hx3.cell
          have HR3 : Hid (TokRow w3 w.heap.size v' (acc ++ [⟨l, d, 0⟩])) := by
            show w3.ownsRow _ _ _ _ _ _
            rw [cellsT_snoc, List.length_append]
            exact hown'
          have HB3 : Hid (Below w.heap.size w w3) := hb3
          clear hown' hgrow hx3 hb3
          go_wp2
          obtain ⟨k', hkk⟩ : ∃ k : Nat, (s : Int) + l = (k : Int) := ⟨s + l.toNat, by omega⟩
          rw [hkk]
          have hfit : Tok.fitsB ⟨l, d, 0⟩ out.length = true := (Tok.fits_iff _ _).2 (show (((d : Int) = 0 ∧ (l : Int) = 1 ∧ (0 : Int) ≤ (0 : Int) ∧ (0 : Int) ≤ 255) ∨ (1 ≤ (d : Int) ∧ (d : Int) ≤ 32 ∧ 2 ≤ (l : Int) ∧ (0 : Int) = (0 : Int))) ∧ d ≤ (out.length : Int) ∧ (l : Int) ≤ 64 - (out.length : Int) by omega)
          have hsl := Tok.step_length out ⟨l, d, 0⟩ _ hfit
          simp only at hsl
          go_roundw
          case rel => exact ⟨m + 1, k', acc ++ [⟨l, d, 0⟩], Tok.step out ⟨l, d, 0⟩, by omega, by go_num, rfl, by omega, by show _ = _; rw [Tok.expand_append, hex.out]; simp [Tok.expand, hfit], by omega, by have := Tok.expand_many acc [] out hex.out; simp at this ⊢; omega, HR3.out, HB3.out⟩
          case measure => simp [intOf]; omega
      · have hx0 : 0 ≤ (U : Int) / 3 % 256 ∧ (U : Int) / 3 % 256 ≤ 255 := by omega
        have HWB : Hid (Below w2.heap.size w2 (w2.alloc (.cells #[.int .i64 1, .int .i64 0, .int .i64 ((U : Int) / 3 % 256)] 98))) := (Below.refl _ _).alloc (Nat.le_refl _) _
        have HBX : Hid (Box (w2.alloc (.cells #[.int .i64 1, .int .i64 0, .int .i64 ((U : Int) / 3 % 256)] 98)) w2.heap.size 1 0 ((U : Int) / 3 % 256)) := heap_alloc_new w2 _
        have HZW : Hid ((w2.alloc (.cells #[.int .i64 1, .int .i64 0, .int .i64 ((U : Int) / 3 % 256)] 98)).heap.size = w2.heap.size + 1) := by show _ = _; simp
        have HRW : Hid (TokRow (w2.alloc (.cells #[.int .i64 1, .int .i64 0, .int .i64 ((U : Int) / 3 % 256)] 98)) w.heap.size (.slice ao acc.length cp) acc) := TokRow.below HROW1.out HWB.out
        rcases (show (U : Int) % 3 = 0 ∨ (0 < (U : Int) % 3 ∧ s = 0) ∨ (0 < (U : Int) % 3 ∧ 0 < s ∧ (n : Int) - (s : Int) ≤ 1) by omega) with h3 | ⟨h3, hs0⟩ | ⟨h3, hs0, hns⟩
        · have h3' : decide (0 < (U : Int) % 3) = false := by simp; omega
          clear hcopy
          go_wp2_with (at_builtin; refine wpList_append_own _ rfl (.tmp 55) (.tmp 57) 25 rfl w.heap.size 98 i0 (.agg #[.int .i64 0, .int .i64 0, .int .i64 0]) 3 24 Try.underlying25 hi hz0 hz1 hz2 rfl (by decide) _ _ _ rfl (TokRow.alloc HRW.out _) ⟨w2.heap.size + 1, 0, none⟩ 1 1 [.int .i64 1, .int .i64 0, .int .i64 ((U : Int) / 3 % 256)] rfl rfl ?a1 ?a2 ?a3 ?a4 ?a5 ?_)
          case a1 => intro j u hj; exact cell_new3' _ _ (by simp) _ _ _ _ j u hj
          case a2 => intro u hu; simp at hu; rcases hu with rfl | rfl | rfl <;> rfl
          case a3 => unfold maxLen; omega
          case a4 => omega
          case a5 => have h1 := HZW.out; have h2 := HB1.out.size; simp at h1 ⊢; omega
          intro v' w3 hown' hgrow _
          obtain ⟨hb3, hx3, hz3⟩ := dr_append HROW1.out HB1.out HWB.out HBX.out HZW.out hgrow
          obtain ⟨b0, b1, b2⟩ := hx3.cell
          have HR3 : Hid (TokRow w3 w.heap.size v' (acc ++ [⟨1, 0, ((U : Int) / 3 % 256)⟩])) := by
            show w3.ownsRow _ _ _ _ _ _
            rw [cellsT_snoc, List.length_append]
            exact hown'
          have HB3 : Hid (Below w.heap.size w w3) := hb3
          clear hown' hgrow hx3 hb3
          go_wp2
          obtain ⟨k', hkk⟩ : ∃ k : Nat, (s : Int) + 1 = (k : Int) := ⟨s + 1, by omega⟩
          rw [hkk]
          have hfit : Tok.fitsB ⟨1, 0, ((U : Int) / 3 % 256)⟩ out.length = true := (Tok.fits_iff _ _).2 (show (((0 : Int) = 0 ∧ (1 : Int) = 1 ∧ (0 : Int) ≤ ((U : Int) / 3 % 256) ∧ ((U : Int) / 3 % 256) ≤ 255) ∨ (1 ≤ (0 : Int) ∧ (0 : Int) ≤ 32 ∧ 2 ≤ (1 : Int) ∧ ((U : Int) / 3 % 256) = (0 : Int))) ∧ 0 ≤ (out.length : Int) ∧ (1 : Int) ≤ 64 - (out.length : Int) by omega)
          have hsl := Tok.step_length out ⟨1, 0, ((U : Int) / 3 % 256)⟩ _ hfit
          simp only at hsl
          go_roundw
          case rel => exact ⟨m + 1, k', acc ++ [⟨1, 0, ((U : Int) / 3 % 256)⟩], Tok.step out ⟨1, 0, ((U : Int) / 3 % 256)⟩, by omega, by go_num, rfl, by omega, by show _ = _; rw [Tok.expand_append, hex.out]; simp [Tok.expand, hfit], by omega, by have := Tok.expand_many acc [] out hex.out; simp at this ⊢; omega, HR3.out, HB3.out⟩
          case measure => simp [intOf]; omega
        · subst hs0
          clear hcopy
          go_wp2_with (at_builtin; refine wpList_append_own _ rfl (.tmp 55) (.tmp 57) 25 rfl w.heap.size 98 i0 (.agg #[.int .i64 0, .int .i64 0, .int .i64 0]) 3 24 Try.underlying25 hi hz0 hz1 hz2 rfl (by decide) _ _ _ rfl (TokRow.alloc HRW.out _) ⟨w2.heap.size + 1, 0, none⟩ 1 1 [.int .i64 1, .int .i64 0, .int .i64 ((U : Int) / 3 % 256)] rfl rfl ?a1 ?a2 ?a3 ?a4 ?a5 ?_)
          case a1 => intro j u hj; exact cell_new3' _ _ (by simp) _ _ _ _ j u hj
          case a2 => intro u hu; simp at hu; rcases hu with rfl | rfl | rfl <;> rfl
          case a3 => unfold maxLen; omega
          case a4 => omega
          case a5 => have h1 := HZW.out; have h2 := HB1.out.size; simp at h1 ⊢; omega
          intro v' w3 hown' hgrow _
          obtain ⟨hb3, hx3, hz3⟩ := dr_append HROW1.out HB1.out HWB.out HBX.out HZW.out hgrow
          obtain ⟨b0, b1, b2⟩ := hx3.cell
          have HR3 : Hid (TokRow w3 w.heap.size v' (acc ++ [⟨1, 0, ((U : Int) / 3 % 256)⟩])) := by
            show w3.ownsRow _ _ _ _ _ _
            rw [cellsT_snoc, List.length_append]
            exact hown'
          have HB3 : Hid (Below w.heap.size w w3) := hb3
          clear hown' hgrow hx3 hb3
          go_wp2
          obtain ⟨k', hkk⟩ : ∃ k : Nat, 1 = (k : Int) := ⟨1, rfl⟩
          try rw [hkk]
          have hfit : Tok.fitsB ⟨1, 0, ((U : Int) / 3 % 256)⟩ out.length = true := (Tok.fits_iff _ _).2 (show (((0 : Int) = 0 ∧ (1 : Int) = 1 ∧ (0 : Int) ≤ ((U : Int) / 3 % 256) ∧ ((U : Int) / 3 % 256) ≤ 255) ∨ (1 ≤ (0 : Int) ∧ (0 : Int) ≤ 32 ∧ 2 ≤ (1 : Int) ∧ ((U : Int) / 3 % 256) = (0 : Int))) ∧ 0 ≤ (out.length : Int) ∧ (1 : Int) ≤ 64 - (out.length : Int) by omega)
          have hsl := Tok.step_length out ⟨1, 0, ((U : Int) / 3 % 256)⟩ _ hfit
          simp only at hsl
          go_roundw
          case rel => exact ⟨m + 1, k', acc ++ [⟨1, 0, ((U : Int) / 3 % 256)⟩], Tok.step out ⟨1, 0, ((U : Int) / 3 % 256)⟩, by omega, by go_num, rfl, by omega, by show _ = _; rw [Tok.expand_append, hex.out]; simp [Tok.expand, hfit], by omega, by have := Tok.expand_many acc [] out hex.out; simp at this ⊢; omega, HR3.out, HB3.out⟩
          case measure => simp [intOf]; omega
        · have hs0' : 0 < (s : Int) := by omega
          clear hcopy
          go_wp2_with (at_builtin; refine wpList_append_own _ rfl (.tmp 55) (.tmp 57) 25 rfl w.heap.size 98 i0 (.agg #[.int .i64 0, .int .i64 0, .int .i64 0]) 3 24 Try.underlying25 hi hz0 hz1 hz2 rfl (by decide) _ _ _ rfl (TokRow.alloc HRW.out _) ⟨w2.heap.size + 1, 0, none⟩ 1 1 [.int .i64 1, .int .i64 0, .int .i64 ((U : Int) / 3 % 256)] rfl rfl ?a1 ?a2 ?a3 ?a4 ?a5 ?_)
          case a1 => intro j u hj; exact cell_new3' _ _ (by simp) _ _ _ _ j u hj
          case a2 => intro u hu; simp at hu; rcases hu with rfl | rfl | rfl <;> rfl
          case a3 => unfold maxLen; omega
          case a4 => omega
          case a5 => have h1 := HZW.out; have h2 := HB1.out.size; simp at h1 ⊢; omega
          intro v' w3 hown' hgrow _
          obtain ⟨hb3, hx3, hz3⟩ := dr_append HROW1.out HB1.out HWB.out HBX.out HZW.out hgrow
          obtain ⟨b0, b1, b2⟩ := hx3.cell
          have HR3 : Hid (TokRow w3 w.heap.size v' (acc ++ [⟨1, 0, ((U : Int) / 3 % 256)⟩])) := by
            show w3.ownsRow _ _ _ _ _ _
            rw [cellsT_snoc, List.length_append]
            exact hown'
          have HB3 : Hid (Below w.heap.size w w3) := hb3
          clear hown' hgrow hx3 hb3
          go_wp2
          obtain ⟨k', hkk⟩ : ∃ k : Nat, (s : Int) + 1 = (k : Int) := ⟨s + 1, by omega⟩
          rw [hkk]
          have hfit : Tok.fitsB ⟨1, 0, ((U : Int) / 3 % 256)⟩ out.length = true := (Tok.fits_iff _ _).2 (show (((0 : Int) = 0 ∧ (1 : Int) = 1 ∧ (0 : Int) ≤ ((U : Int) / 3 % 256) ∧ ((U : Int) / 3 % 256) ≤ 255) ∨ (1 ≤ (0 : Int) ∧ (0 : Int) ≤ 32 ∧ 2 ≤ (1 : Int) ∧ ((U : Int) / 3 % 256) = (0 : Int))) ∧ 0 ≤ (out.length : Int) ∧ (1 : Int) ≤ 64 - (out.length : Int) by omega)
          have hsl := Tok.step_length out ⟨1, 0, ((U : Int) / 3 % 256)⟩ _ hfit
          simp only at hsl
          go_roundw
          case rel => exact ⟨m + 1, k', acc ++ [⟨1, 0, ((U : Int) / 3 % 256)⟩], Tok.step out ⟨1, 0, ((U : Int) / 3 % 256)⟩, by omega, by go_num, rfl, by omega, by show _ = _; rw [Tok.expand_append, hex.out]; simp [Tok.expand, hfit], by omega, by have := Tok.expand_many acc [] out hex.out; simp at this ⊢; omega, HR3.out, HB3.out⟩
          case measure => simp [intOf]; omega
    · go_wp2
      go_ret
      exact ⟨hb, _, acc, out, rfl, hrow, hex.out, by omega⟩
end Go.Proofs.Ytnpnaglgllcpfaa
