/-
  What right tokens make, as the laws without the document's answer reckon it.
-/
import Derived.Test.YtnpnaglgllcpfabMkN
import Derived.Test.YtnpnaglgllcpfabKp
namespace Go.Proofs.Ytnpnaglgllcpfab
set_option maxRecDepth 100000
open Go.RowKit

set_option maxHeartbeats 1000000 in
theorem made_calls (a : Option Addr) (ts : List Tok) (o : List UInt8) (cap : Nat) (w : World) (hl : ts.length ≤ 9223372036854775807) (ht : ToksAt w a ts) (hx : Tok.expand [] ts = some o) :
    Calls Try.prog 15 #[.slice a ts.length cap] w fun e w' => Below w.heap.size w w' ∧ ∃ v, e = .returned (.tuple #[v, .bool true]) ∧ OwnB w' w.heap.size v o := by
  have HT : Hid (ToksAt w a ts) := ht
  have HX : Hid (Tok.expand [] ts = some o) := hx
  clear ht hx
  obtain ⟨i0, hi, hz0, hz1, hz2⟩ := info_parts info8
  go_enter Try.func15, Try.ntmps15
  go_wp2
  go_loopw [4, 5] (fun v i wr => ∃ (k : Nat) (out : List UInt8), k ≤ ts.length ∧ i = .int .i64 k ∧ Hid (Tok.expand [] (ts.take k) = some out) ∧ out.length ≤ 64 ∧ OwnB wr w.heap.size v out ∧ Below w.heap.size w wr) (fun _ i _ => ts.length - (intOf i).toNat)
  case atStart => exact ⟨0, [], Nat.zero_le _, rfl, rfl, by simp, World.ownsRow_nil _ _ _ _, Below.refl _ _⟩
  case round =>
    obtain ⟨k, out, hk, rfl, he, hm, hown, hb⟩ := hrel
    by_cases hlt : k < ts.length
    · obtain ⟨b, off, ha, hbl, hcell⟩ : ∃ b off, a = some ⟨b, off, none⟩ ∧ b < wr.heap.size ∧ ∀ i (hi : i < ts.length),
          wr.cell? ⟨b, off + i * 3, none⟩ = some (.int .i64 ts[i].len) ∧ wr.cell? ⟨b, off + i * 3 + 1, none⟩ = some (.int .i64 ts[i].dist) ∧ wr.cell? ⟨b, off + i * 3 + 2, none⟩ = some (.int .i64 ts[i].byte) := by
        rcases HT.out.below hb with h | h
        · rw [h] at hlt; simp at hlt
        · exact h
      subst ha
      obtain ⟨c0, c1, c2⟩ := hcell k hlt
      clear hcell
      have HN := Tok.expand_next ts k hlt out he.out
      have hfit : Tok.fitsB ts[k] out.length = true := by
        by_cases hf : Tok.fitsB ts[k] out.length = true
        · exact hf
        · rw [if_neg hf] at HN
          have := Tok.expand_stop ts k HN
          rw [HX.out] at this
          cases this
      rw [if_pos hfit] at HN
      generalize ts[k] = t at *
      obtain ⟨l, d, x⟩ := t
      simp only at c0 c1 c2
      have HN' : Hid _ := HN
      have hf' := (Tok.fits_iff _ _).1 hfit
      simp only at hf'
      have HM : Hid _ := mkN_step ⟨l, d, x⟩ out ((Tok.form_iff _).2 hf'.1)
      clear HN
      obtain ⟨ao, cp, rfl⟩ := hown.form
      have HO : Hid _ := hown
      clear hown hfit
      have hwz : w.heap.size ≤ wr.heap.size := hb.size
      rcases hf' with ⟨⟨rfl, rfl, hx0, hx1⟩ | ⟨hd1, hd2, hl2, rfl⟩, hdo, hlo⟩
      · have hlt64 : out.length ≤ 63 := by omega
        have hbw : Below w.heap.size w (wr.alloc (.cells #[.int .i64 1, .int .i64 0, .int .i64 x] 60)) := hb.alloc hwz _
        have HBX : Hid (Box (wr.alloc (.cells #[.int .i64 1, .int .i64 0, .int .i64 x] 60)) wr.heap.size 1 0 x) := heap_alloc_new wr _
        have HO1 : Hid (OwnB (wr.alloc (.cells #[.int .i64 1, .int .i64 0, .int .i64 x] 60)) w.heap.size (.slice ao out.length cp) out) := OwnB.alloc HO.out _
        go_wp2_with fail
        generalize wr.alloc (.cells #[.int .i64 1, .int .i64 0, .int .i64 x] 60) = w1 at *
        generalize wr.heap.size = q at *
        go_loopw [4, 8] (fun v i wq => ∃ (j : Nat), j ≤ 1 ∧ i = .int .i64 j ∧ OwnB wq w.heap.size v (mkN ⟨1, 0, x⟩ out j) ∧ Box wq q 1 0 x ∧ Below w.heap.size w wq) (fun _ i _ => 1 - (intOf i).toNat)
        case atStart => exact ⟨0, Nat.zero_le _, rfl, by rw [mkN_zero]; exact HO1.out, HBX.out, hbw⟩
        case round =>
          obtain ⟨j, hj, rfl, hownj, hboxj, hbj⟩ := hrel
          have hlen := mkN_length ⟨1, 0, x⟩ out j
          have hlen1 : out.length ≤ (mkN ⟨1, 0, x⟩ out j).length := by omega
          have hlen2 : (mkN ⟨1, 0, x⟩ out j).length ≤ 127 := by omega
          have hbq : w.heap.size ≤ wr.heap.size := hbj.size
          by_cases hjl : j < 1
          · obtain ⟨y0, y1, y2⟩ := hboxj.cell
            have HBJ : Hid _ := hboxj
            clear hboxj hlen
            have hsucc : Hid (mkN ⟨1, 0, x⟩ out (j + 1) = mkN ⟨1, 0, x⟩ out j ++ [UInt8.ofNat x.toNat]) := mkN_lit ⟨1, 0, x⟩ out j rfl
            generalize mkN ⟨1, 0, x⟩ out j = o' at *
            obtain ⟨ao', cp', rfl⟩ := hownj.form
            have HOJ : Hid _ := hownj
            clear hownj
            go_wp2_with (at_builtin; refine wpList_append_own _ rfl _ _ 22 rfl w.heap.size 5 i0 (.int .u8 0) 1 1 Try.underlying22 hi hz0 hz1 hz2 rfl (by decide) _ _ _ rfl (HOJ.out.alloc _) ⟨wr.heap.size, 0, none⟩ 1 1 [.int .u8 x] rfl rfl ?d1a ?d2a ?d3a ?d4a ?d5a ?_)
            case d1a => intro j u hj; exact cell_new1 _ _ _ j u hj
            case d2a => first | rfl | (intro u hu; simp at hu; subst hu; rfl)
            case d3a => unfold maxLen; omega
            case d4a => omega
            case d5a => first | omega | (simp; omega)
            intro v' w2 hown' hgrow _
            have hbw2 : Below w.heap.size w w2 := below_own (hbj.alloc (by omega) _) (HOJ.out.alloc _) hgrow (Nat.le_refl _) (by simp; omega)
            have hbox2 : Box w2 q 1 0 x := Box.grown (Box.alloc HBJ.out _) (HOJ.out.alloc _) hgrow
            have hown2 : OwnB w2 w.heap.size v' (mkN ⟨1, 0, x⟩ out (j + 1)) := by
              rw [hsucc.out]
              unfold OwnB
              have e5 : ((UInt8.ofNat x.toNat).toNat : Int) = x := by simp; omega
              rw [cellsB_snoc, List.length_append, e5]
              exact hown'
            clear hown' hgrow
            go_wp2
            go_roundw
            case rel => exact ⟨j + 1, by omega, by go_num, hown2, hbox2, hbw2⟩
            case measure => simp [intOf]; omega
          · have hje : j = 1 := by omega
            have hs : mkN ⟨1, 0, x⟩ out j = Tok.step out ⟨1, 0, x⟩ := by rw [← HM.out, hje]; rfl
            rw [hs] at hownj hlen
            clear hs hlen1 hlen2
            obtain ⟨y0, y1, y2⟩ := hboxj.cell
            clear hboxj
            have HN3 : Hid (Tok.expand [] (ts.take (k + 1)) = some (Tok.step out ⟨1, 0, x⟩)) := HN'.out
            have hlen3 : (Tok.step out ⟨1, 0, x⟩).length ≤ 64 := by omega
            clear hlen HN' HM
            generalize Tok.step out ⟨1, 0, x⟩ = o' at *
            obtain ⟨ao', cp', rfl⟩ := hownj.form
            have HOJ : Hid _ := hownj
            clear hownj
            go_wp2
            go_roundw
            case rel => exact ⟨k + 1, _, by omega, by go_num, HN3, by omega, HOJ.out, hbj⟩
            case measure => simp [intOf]; omega
      · obtain ⟨L, rfl⟩ : ∃ L : Nat, l = (L : Int) := ⟨l.toNat, by omega⟩
        obtain ⟨D, rfl⟩ : ∃ D : Nat, d = (D : Int) := ⟨d.toNat, by omega⟩
        have hd0 : ¬ (D : Int) = 0 := by omega
        have hd0' : ((D : Int) == 0) = false := by simpa using hd0
        have hdp : 0 < (D : Int) := by omega
        have hL1 : 1 ≤ (L : Int) := by omega
        have hL0 : ¬ L = 0 := by omega
        have hDp : 0 < D := by omega
        have hDo : ¬ out.length < D := by omega
        have hbw : Below w.heap.size w (wr.alloc (.cells #[.int .i64 (L : Int), .int .i64 (D : Int), .int .i64 0] 60)) := hb.alloc hwz _
        have HBX : Hid (Box (wr.alloc (.cells #[.int .i64 (L : Int), .int .i64 (D : Int), .int .i64 0] 60)) wr.heap.size (L : Int) (D : Int) 0) := heap_alloc_new wr _
        have HO1 : Hid (OwnB (wr.alloc (.cells #[.int .i64 (L : Int), .int .i64 (D : Int), .int .i64 0] 60)) w.heap.size (.slice ao out.length cp) out) := OwnB.alloc HO.out _
        go_wp2_with fail
        generalize wr.alloc (.cells #[.int .i64 (L : Int), .int .i64 (D : Int), .int .i64 0] 60) = w1 at *
        generalize wr.heap.size = q at *
        go_loopw [4, 8] (fun v i wq => ∃ (j : Nat), j ≤ L ∧ i = .int .i64 j ∧ OwnB wq w.heap.size v (mkN ⟨(L : Int), (D : Int), 0⟩ out j) ∧ Box wq q (L : Int) (D : Int) 0 ∧ Below w.heap.size w wq) (fun _ i _ => L - (intOf i).toNat)
        case atStart => exact ⟨0, Nat.zero_le _, rfl, by rw [mkN_zero]; exact HO1.out, HBX.out, hbw⟩
        case round =>
          obtain ⟨j, hj, rfl, hownj, hboxj, hbj⟩ := hrel
          have hlen := mkN_length ⟨(L : Int), (D : Int), 0⟩ out j
          have hlen1 : out.length ≤ (mkN ⟨(L : Int), (D : Int), 0⟩ out j).length := by omega
          have hlen2 : (mkN ⟨(L : Int), (D : Int), 0⟩ out j).length ≤ 127 := by omega
          have hbq : w.heap.size ≤ wr.heap.size := hbj.size
          by_cases hjl : j < L
          · obtain ⟨y0, y1, y2⟩ := hboxj.cell
            have HBJ : Hid _ := hboxj
            clear hboxj hlen
            have hsucc : Hid (mkN ⟨(L : Int), (D : Int), 0⟩ out (j + 1) = mkN ⟨(L : Int), (D : Int), 0⟩ out j ++ [(mkN ⟨(L : Int), (D : Int), 0⟩ out j).getD ((mkN ⟨(L : Int), (D : Int), 0⟩ out j).length - D) 0]) := mkN_copy ⟨(L : Int), (D : Int), 0⟩ out j (by simp; omega)
            generalize mkN ⟨(L : Int), (D : Int), 0⟩ out j = o' at *
            obtain ⟨g, cq, hv, hg0, hg1, hgc⟩ := hownj.at (by omega)
            subst hv
            have hgc' := hgc (o'.length - D) (by omega)
            clear hgc
            have HOJ : Hid _ := hownj
            clear hownj
            generalize o'.getD (o'.length - D) 0 = c at *
            have hcn : c.toNat < 256 := c.toNat_lt
            go_wp2_with (at_builtin; refine wpList_append_own _ rfl _ _ 22 rfl w.heap.size 5 i0 (.int .u8 0) 1 1 Try.underlying22 hi hz0 hz1 hz2 rfl (by decide) _ _ _ rfl (HOJ.out.alloc _) ⟨wr.heap.size, 0, none⟩ 1 1 [.int .u8 c.toNat] rfl rfl ?d1a ?d2a ?d3a ?d4a ?d5a ?_)
            case d1a => intro j u hj; exact cell_new1 _ _ _ j u hj
            case d2a => first | rfl | (intro u hu; simp at hu; subst hu; rfl)
            case d3a => unfold maxLen; omega
            case d4a => omega
            case d5a => first | omega | (simp; omega)
            intro v' w2 hown' hgrow _
            have hbw2 : Below w.heap.size w w2 := below_own (hbj.alloc (by omega) _) (HOJ.out.alloc _) hgrow (Nat.le_refl _) (by simp; omega)
            have hbox2 : Box w2 q (L : Int) (D : Int) 0 := Box.grown (Box.alloc HBJ.out _) (HOJ.out.alloc _) hgrow
            have hown2 : OwnB w2 w.heap.size v' (mkN ⟨(L : Int), (D : Int), 0⟩ out (j + 1)) := by
              rw [hsucc.out]
              unfold OwnB
              rw [cellsB_snoc, List.length_append]
              exact hown'
            clear hown' hgrow
            go_wp2
            go_roundw
            case rel => exact ⟨j + 1, by omega, by go_num, hown2, hbox2, hbw2⟩
            case measure => simp [intOf]; omega
          · have hje : j = L := by omega
            have hs : mkN ⟨(L : Int), (D : Int), 0⟩ out j = Tok.step out ⟨(L : Int), (D : Int), 0⟩ := by rw [← HM.out, hje]; rfl
            rw [hs] at hownj hlen
            clear hs hlen1 hlen2
            obtain ⟨y0, y1, y2⟩ := hboxj.cell
            clear hboxj
            have HN3 : Hid (Tok.expand [] (ts.take (k + 1)) = some (Tok.step out ⟨(L : Int), (D : Int), 0⟩)) := HN'.out
            have hlen3 : (Tok.step out ⟨(L : Int), (D : Int), 0⟩).length ≤ 64 := by omega
            clear hlen HN' HM
            generalize Tok.step out ⟨(L : Int), (D : Int), 0⟩ = o' at *
            obtain ⟨ao', cp', rfl⟩ := hownj.form
            have HOJ : Hid _ := hownj
            clear hownj
            go_wp2
            go_roundw
            case rel => exact ⟨k + 1, _, by omega, by go_num, HN3, by omega, HOJ.out, hbj⟩
            case measure => simp [intOf]; omega
    · have hke : k = ts.length := by omega
      have HE : Hid (out = o) := by
        show out = o
        have := he.out
        rw [hke, List.take_length, HX.out] at this
        simpa using this.symm
      clear hke
      have HO : Hid _ := hown
      clear hown
      go_wp2
      go_ret2
      exact ⟨hb, _, rfl, by rw [← HE.out]; exact HO.out⟩
end Go.Proofs.Ytnpnaglgllcpfab
