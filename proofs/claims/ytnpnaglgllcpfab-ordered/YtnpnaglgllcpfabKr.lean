/-
  Other tokens for a piece, by raw numbers: presskeep.rival.
-/
import Derived.Test.YtnpnaglgllcpfabKq
import Derived.BigRegion
namespace Go.Proofs.Ytnpnaglgllcpfab
set_option maxRecDepth 100000
open Go.RowKit

theorem mem_literal (p : List UInt8) (i : Nat) : literal p i ∈ outToks p i := (mem_outToks p i _).2 (.inl rfl)
theorem mem_copy (p : List UInt8) (i d l : Nat) (h1 : 1 ≤ d) (h2 : d ≤ 32) (h3 : d ≤ i) (h4 : 2 ≤ l) (h5 : l ≤ alk p i d) : (⟨(l : Int), (d : Int), 0⟩ : Tok) ∈ outToks p i := (mem_outToks p i _).2 (.inr ⟨d, l, h1, h2, h3, h4, h5, rfl⟩)
theorem expand_more {p : List UInt8} (hp : p.length ≤ 64) {i : Nat} (hi : i < p.length) {acc : List Tok} {t : Tok} (he : Tok.expand [] acc = some (p.take i)) (hm : t ∈ outToks p i) : Tok.expand [] (acc ++ [t]) = some (p.take (i + t.len.toNat)) := by
  obtain ⟨h1, h2⟩ := out_step p hp i hi t hm
  rw [Tok.expand_append, he]
  have hl : (p.take i).length = i := by rw [List.length_take]; omega
  simp [Tok.expand, hl, h1, h2]

set_option maxHeartbeats 2000000 in
theorem rival_calls (a ra : Option Addr) (p : List UInt8) (raw : List Int) (cap rc k : Nat) (w : World) (hp : p.length ≤ 64) (hb : BytesAt w a p) (hr : RawAt w ra raw) (hrl : raw.length ≤ 9223372036854775807) (hk : k ≤ 1000000) :
    Calls Try.prog 18 #[.slice a p.length cap, .slice ra raw.length rc, .int .i64 k] w fun e w' => Below w.heap.size w w' ∧ ∃ v ts, e = .returned v ∧ TokRow w' w.heap.size v ts ∧ Tok.expand [] ts = some p := by
  have HB : Hid (BytesAt w a p) := hb
  have HRW : Hid (RawAt w ra raw) := hr
  obtain ⟨it, hti, htz0, htz1, htz2⟩ := info_parts infoTok
  clear hb hr
  go_enter Try.func18, Try.ntmps18
  go_wp2_with fail
  go_loopg [2, 7, 8] p.length (fun g kv v iv wr => ∃ (i m : Nat) (acc : List Tok), i ≤ p.length ∧ g = p.length - i ∧ kv = .int .i64 m ∧ m ≤ k + i ∧ iv = .int .i64 i ∧ acc.length ≤ i ∧ Hid (Tok.expand [] acc = some (p.take i)) ∧ Hid (TokRow wr w.heap.size v acc) ∧ Hid (Below w.heap.size w wr))
  case atStart => exact ⟨0, k, [], by omega, rfl, rfl, by omega, rfl, by simp, rfl, World.ownsRow_nil _ _ _ _, Below.refl _ _⟩
  case round =>
    obtain ⟨i, m, acc, hi, hg, rfl, hm, rfl, hal, hex, HROW, HBW⟩ := hrel
    have HG : Hid _ := hg
    clear hg
    obtain ⟨ao, cp, rfl⟩ := HROW.out.form
    by_cases hlt : i < p.length
    · have HR1 : Hid (RawAt wr ra raw) := HRW.out.below HBW.out
      have hsw := HBW.out.size
      go_wp2_with fail
      refine (at_calls ra raw rc m wr hrl HR1.out (by omega) (by omega)).mono ?_
      rintro e w1 ⟨⟨r, hr64, rfl⟩, nd, rfl⟩
      have HB1 : Hid (Below w.heap.size w (wr.drewN nd)) := below_drewN HBW.out nd
      have HROW1 : Hid (TokRow (wr.drewN nd) w.heap.size (.slice ao acc.length cp) acc) := TokRow.below HROW.out (below_drewN (Below.refl _ _) nd)
      generalize wr.drewN nd = w1 at *
      go_wp2_with fail
      refine (pick_calls r 1099511627776 _ hr64 (by omega) (by omega)).mono ?_
      rintro e w2 ⟨⟨U, hU0, hU1, rfl⟩, rfl⟩
      obtain ⟨b, off, ha, hcell⟩ : ∃ b off, a = some ⟨b, off, none⟩ ∧ ∀ j, j < p.length → w2.cell? ⟨b, off + j, none⟩ = some (.int .u8 (p.getD j 0).toNat) := by
        rcases bytesAt_below2 HB.out HB1.out with h | h
        · rw [h] at hlt; simp at hlt
        · exact h
      subst ha
      have hc := hcell i hlt
      have hcn : (p.getD i 0).toNat < 256 := (p.getD i 0).toNat_lt
      have HLIT : Hid (literal p i = ⟨1, 0, (p.getD i 0).toNat⟩) := rfl
      generalize p.getD i 0 = c at *
      have hix : 0 ≤ (i : Int) ∧ (i : Int) < (p.length : Int) := by omega
      clear hcell
      obtain ⟨D, hD⟩ : ∃ D : Nat, 1 + U % 32 = (D : Int) := ⟨(1 + U % 32).toNat, by omega⟩
      have hD1 : 1 ≤ D ∧ D ≤ 32 := by omega
      by_cases hdi : D ≤ i
      · have hdi' : 1 + U % 32 ≤ (i : Int) := by omega
        have HDU : Hid (1 + U % 32 = (D : Int)) := hD
        have hBl := bytesAt_below2 HB.out HB1.out
        have HWB : Hid (Below w2.heap.size w2 (w2.alloc (.cells #[.int .i64 1, .int .i64 0, .int .i64 c.toNat] 60))) := (Below.refl _ _).alloc (Nat.le_refl _) _
        have HBX : Hid (Box (w2.alloc (.cells #[.int .i64 1, .int .i64 0, .int .i64 c.toNat] 60)) w2.heap.size 1 0 c.toNat) := heap_alloc_new w2 _
        have HZW : Hid ((w2.alloc (.cells #[.int .i64 1, .int .i64 0, .int .i64 c.toNat] 60)).heap.size = w2.heap.size + 1) := by show (w2.alloc _).heap.size = _; simp
        clear hD
        go_wp2_with fail
        rw [HDU.out]
        refine (kalike_is _ p cap i D _ hp (bytesAt_below2 hBl HWB.out) (by omega) hdi hD1.1).mono ?_
        rintro e w3 ⟨rfl, nd, rfl⟩
        have HWB2 : Hid (Below w2.heap.size w2 ((w2.alloc (.cells #[.int .i64 1, .int .i64 0, .int .i64 c.toNat] 60)).drewN nd)) := below_drewN HWB.out nd
        have HBX2 : Hid (Box ((w2.alloc (.cells #[.int .i64 1, .int .i64 0, .int .i64 c.toNat] 60)).drewN nd) w2.heap.size 1 0 c.toNat) := HBX.out
        have HZW2 : Hid (((w2.alloc (.cells #[.int .i64 1, .int .i64 0, .int .i64 c.toNat] 60)).drewN nd).heap.size = w2.heap.size + 1) := HZW.out
        have hal2 := (alk_most p i D (by omega)).1.1
        clear HWB HBX HZW hBl
        generalize (w2.alloc (.cells #[.int .i64 1, .int .i64 0, .int .i64 c.toNat] 60)).drewN nd = W at *
        have HWB : Hid _ := HWB2.out
        have HBX : Hid (Box W w2.heap.size 1 0 c.toNat) := HBX2.out
        have HZW : Hid (W.heap.size = w2.heap.size + 1) := HZW2.out
        generalize hA : alk p i D = n at *
        have HA : Hid (alk p i D = n) := hA
        clear hA HWB2 HBX2 HZW2
        by_cases hn2 : 2 ≤ n
        · have hn2' : 2 ≤ (n : Int) := by omega
          have q1 : 0 ≤ U / 32 % ((n : Int) - 1) := Int.emod_nonneg _ (by omega)
          have q2 : U / 32 % ((n : Int) - 1) < (n : Int) - 1 := Int.emod_lt_of_pos _ (by omega)
          obtain ⟨L, hL⟩ : ∃ L : Nat, 2 + U / 32 % ((n : Int) - 1) = (L : Int) := ⟨(2 + U / 32 % ((n : Int) - 1)).toNat, by omega⟩
          obtain ⟨⟨y0, y1, y2⟩, g0, g1, g2⟩ := trio_cell HBX.out
          have hlW : w2.heap.size < W.heap.size := by have := HZW.out; omega
          have hnz : ¬ (n : Int) - 1 = 0 := by omega
          have HWS : Hid (Below w2.heap.size w2 (((W.setCell ⟨w2.heap.size, 0, none⟩ (.int .i64 L)).setCell ⟨w2.heap.size, 1, none⟩ (.int .i64 D)).setCell ⟨w2.heap.size, 2, none⟩ (.int .i64 0))) := ((HWB.out.setCell (Nat.le_refl _) _).setCell (Nat.le_refl _) _).setCell (Nat.le_refl _) _
          have HBS : Hid (Box (((W.setCell ⟨w2.heap.size, 0, none⟩ (.int .i64 L)).setCell ⟨w2.heap.size, 1, none⟩ (.int .i64 D)).setCell ⟨w2.heap.size, 2, none⟩ (.int .i64 0)) w2.heap.size L D 0) := set_block (i := 2) (set_block (i := 1) (set_block (i := 0) HBX.out _) _) _
          have HZS : Hid ((((W.setCell ⟨w2.heap.size, 0, none⟩ (.int .i64 L)).setCell ⟨w2.heap.size, 1, none⟩ (.int .i64 D)).setCell ⟨w2.heap.size, 2, none⟩ (.int .i64 0)).heap.size = w2.heap.size + 1) := by show _ = _; rw [set_size, set_size, set_size]; exact HZW.out
          have HRWx : Hid (TokRow (((W.setCell ⟨w2.heap.size, 0, none⟩ (.int .i64 L)).setCell ⟨w2.heap.size, 1, none⟩ (.int .i64 D)).setCell ⟨w2.heap.size, 2, none⟩ (.int .i64 0)) w.heap.size (.slice ao acc.length cp) acc) := TokRow.below HROW1.out HWS.out
          go_wp2_with (at_builtin; refine wpList_append_own _ rfl _ _ 34 rfl w.heap.size 60 it (.agg #[.int .i64 0, .int .i64 0, .int .i64 0]) 3 24 Try.underlying34 hti htz0 htz1 htz2 rfl (by decide) _ _ _ rfl (TokRow.alloc HRWx.out _) ⟨W.heap.size, 0, none⟩ 1 1 [.int .i64 L, .int .i64 D, .int .i64 0] rfl rfl ?a1 ?a2 ?a3 ?a4 ?a5 ?_)
          case a1 => intro j u hj; exact cell_new3' _ _ (by rw [set_size, set_size, set_size]) _ _ _ _ j u hj
          case a2 => intro u hu; simp at hu; rcases hu with rfl | rfl | rfl <;> rfl
          case a3 => unfold maxLen; omega
          case a4 => omega
          case a5 => have h1 := HZS.out; have h2 := HB1.out.size; rw [World.size_alloc]; omega
          intro v' w3 hown' hgrow _
          obtain ⟨hb3, hx3, hz3⟩ := dr_append HROW1.out HB1.out HWS.out HBS.out HZS.out hgrow
          obtain ⟨b0, b1, b2⟩ := hx3.cell
          have HR3 : Hid (TokRow w3 w.heap.size v' (acc ++ [(⟨(L : Int), (D : Int), 0⟩ : Tok)])) := by
            show w3.ownsRow _ _ _ _ _ _
            rw [cellsT_snoc, List.length_append]
            exact hown'
          have HB3 : Hid (Below w.heap.size w w3) := hb3
          clear hown' hgrow hx3 hb3
          go_wp2
          have hme := mem_copy p i D L hD1.1 hD1.2 hdi (by omega) (by rw [HA.out]; omega)
          have hmore := expand_more hp hlt hex.out hme
          have HMORE : Hid (Tok.expand [] (acc ++ [(⟨(L : Int), (D : Int), 0⟩ : Tok)]) = some (p.take (i + L))) := by
            rw [show (⟨(L : Int), (D : Int), 0⟩ : Tok).len.toNat = L from Int.toNat_natCast L] at hmore
            exact hmore
          go_roundg (p.length - (i + L))
          case measure => have := HG.out; omega
          case rel => exact ⟨i + L, m + 1, acc ++ [(⟨(L : Int), (D : Int), 0⟩ : Tok)], by omega, rfl, by go_num, by omega, by go_num, by simp; omega, HMORE, HR3, HB3⟩
        · have hn2' : ¬ 2 ≤ (n : Int) := by omega
          have HRWx : Hid (TokRow W w.heap.size (.slice ao acc.length cp) acc) := TokRow.below HROW1.out HWB.out
          obtain ⟨y0, y1, y2⟩ := HBX.out.cell
          go_wp2_with (at_builtin; refine wpList_append_own _ rfl _ _ 34 rfl w.heap.size 60 it (.agg #[.int .i64 0, .int .i64 0, .int .i64 0]) 3 24 Try.underlying34 hti htz0 htz1 htz2 rfl (by decide) _ _ _ rfl (TokRow.alloc HRWx.out _) ⟨W.heap.size, 0, none⟩ 1 1 [.int .i64 1, .int .i64 0, .int .i64 c.toNat] rfl rfl ?a1 ?a2 ?a3 ?a4 ?a5 ?_)
          case a1 => intro j u hj; exact cell_new3 _ _ _ _ _ j u hj
          case a2 => intro u hu; simp at hu; rcases hu with rfl | rfl | rfl <;> rfl
          case a3 => unfold maxLen; omega
          case a4 => omega
          case a5 => have h1 := HZW.out; have h2 := HB1.out.size; simp at h1 ⊢; omega
          intro v' w3 hown' hgrow _
          obtain ⟨hb3, hx3, hz3⟩ := dr_append HROW1.out HB1.out HWB.out HBX.out HZW.out hgrow
          obtain ⟨b0, b1, b2⟩ := hx3.cell
          have HR3 : Hid (TokRow w3 w.heap.size v' (acc ++ [⟨1, 0, c.toNat⟩])) := by
            show w3.ownsRow _ _ _ _ _ _
            rw [cellsT_snoc, List.length_append]
            exact hown'
          have HB3 : Hid (Below w.heap.size w w3) := hb3
          clear hown' hgrow hx3 hb3
          go_wp2
          have hme : (⟨1, 0, (c.toNat : Int)⟩ : Tok) ∈ outToks p i := by rw [← HLIT.out]; exact mem_literal p i
          have hmore := expand_more hp hlt hex.out hme
          have HMORE : Hid (Tok.expand [] (acc ++ [(⟨1, 0, (c.toNat : Int)⟩ : Tok)]) = some (p.take (i + 1))) := hmore
          go_roundg (p.length - (i + 1))
          case measure => have := HG.out; omega
          case rel => exact ⟨i + 1, m + 1, acc ++ [(⟨1, 0, (c.toNat : Int)⟩ : Tok)], by omega, rfl, by go_num, by omega, by go_num, by simp; omega, HMORE, HR3, HB3⟩
      · have hdi' : ¬ 1 + U % 32 ≤ (i : Int) := by omega
        have hdi2 : (i : Int) < 1 + U % 32 := by omega
        clear hD
        have HWB : Hid (Below w2.heap.size w2 (w2.alloc (.cells #[.int .i64 1, .int .i64 0, .int .i64 c.toNat] 60))) := (Below.refl _ _).alloc (Nat.le_refl _) _
        have HBX : Hid (Box (w2.alloc (.cells #[.int .i64 1, .int .i64 0, .int .i64 c.toNat] 60)) w2.heap.size 1 0 c.toNat) := heap_alloc_new w2 _
        have HZW : Hid ((w2.alloc (.cells #[.int .i64 1, .int .i64 0, .int .i64 c.toNat] 60)).heap.size = w2.heap.size + 1) := by show (w2.alloc _).heap.size = _; simp
        go_wp2_with (at_builtin; refine wpList_append_own _ rfl _ _ 34 rfl w.heap.size 60 it (.agg #[.int .i64 0, .int .i64 0, .int .i64 0]) 3 24 Try.underlying34 hti htz0 htz1 htz2 rfl (by decide) _ _ _ rfl ((TokRow.alloc HROW1.out _).alloc _) ⟨w2.heap.size + 1, 0, none⟩ 1 1 [.int .i64 1, .int .i64 0, .int .i64 c.toNat] rfl rfl ?a1 ?a2 ?a3 ?a4 ?a5 ?_)
        case a1 => intro j u hj; exact cell_new3' _ _ (by simp) _ _ _ _ j u hj
        case a2 => intro u hu; simp at hu; rcases hu with rfl | rfl | rfl <;> rfl
        case a3 => unfold maxLen; omega
        case a4 => omega
        case a5 => have h2 := HB1.out.size; simp; omega
        intro v' w3 hown' hgrow _
        obtain ⟨hb3, hx3, hz3⟩ := dr_append HROW1.out HB1.out HWB.out HBX.out HZW.out hgrow
        obtain ⟨b0, b1, b2⟩ := hx3.cell
        have HR3 : Hid (TokRow w3 w.heap.size v' (acc ++ [⟨1, 0, c.toNat⟩])) := by
          show w3.ownsRow _ _ _ _ _ _
          rw [cellsT_snoc, List.length_append]
          exact hown'
        have HB3 : Hid (Below w.heap.size w w3) := hb3
        clear hown' hgrow hx3 hb3
        go_wp2
        have hme : (⟨1, 0, (c.toNat : Int)⟩ : Tok) ∈ outToks p i := by rw [← HLIT.out]; exact mem_literal p i
        have hmore := expand_more hp hlt hex.out hme
        have HMORE : Hid (Tok.expand [] (acc ++ [(⟨1, 0, (c.toNat : Int)⟩ : Tok)]) = some (p.take (i + 1))) := hmore
        go_roundg (p.length - (i + 1))
        case measure => have := HG.out; omega
        case rel => exact ⟨i + 1, m + 1, acc ++ [(⟨1, 0, (c.toNat : Int)⟩ : Tok)], by omega, rfl, by go_num, by omega, by go_num, by simp; omega, HMORE, HR3, HB3⟩
    · have HXP : Hid (Tok.expand [] acc = some p) := by
        have := hex.out
        rw [List.take_of_length_le (by omega)] at this
        exact this
      go_wp2
      go_ret
      exact ⟨HBW.out, _, acc, rfl, HROW.out, HXP.out⟩
end Go.Proofs.Ytnpnaglgllcpfab
