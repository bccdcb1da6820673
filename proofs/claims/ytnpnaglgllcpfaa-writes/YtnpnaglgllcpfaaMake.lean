/-
  What the document's Make answers of tokens in memory.
-/
import Derived.Test.YtnpnaglgllcpfaaMkN
import Derived.Test.YtnpnaglgllcpfaaTokR
import Derived.Test.YtnpnaglgllcpfaaMk
namespace Go.Proofs.Ytnpnaglgllcpfaa
set_option maxRecDepth 100000
open Go.RowKit

set_option maxHeartbeats 1000000 in
theorem make_calls (a : Option Addr) (ts : List Tok) (cap : Nat) (w : World) (hl : ts.length ≤ 9223372036854775807) (ht : ToksAt w a ts) :
    Calls Try.prog 42 #[.slice a ts.length cap] w fun e w' => Below w.heap.size w w' ∧ ExpAns w.heap.size ts e w' := by
  have HT : Hid (ToksAt w a ts) := ht
  clear ht
  obtain ⟨i0, hi, hz0, hz1, hz2⟩ := info_parts info8
  go_enter Try.func42, Try.ntmps42
  go_wp2
  go_loopw [4, 5] (fun v i wr => ∃ (k : Nat) (out : List UInt8), k ≤ ts.length ∧ i = .int .i64 k ∧ Hid (Tok.expand [] (ts.take k) = some out) ∧ out.length ≤ 64 ∧ OwnB wr w.heap.size v out ∧ Below w.heap.size w wr) (fun _ i _ => ts.length - (intOf i).toNat)
  case atStart => exact ⟨0, [], Nat.zero_le _, rfl, rfl, by simp, World.ownsRow_nil _ _ _ _, Below.refl _ _⟩
  case round =>
    obtain ⟨k, out, hk, rfl, he, hm, hown, hb⟩ := hrel
    by_cases hlt : k < ts.length
    · obtain ⟨b, off, ha, hbl, hcell⟩ : ∃ b off, a = some ⟨b, off, none⟩ ∧ b < wr.heap.size ∧ ∀ i (hi : i < ts.length),
          wr.cell? ⟨b, off + i * 3, none⟩ = some (.int .i64 ts[i].len) ∧ wr.cell? ⟨b, off + i * 3 + 1, none⟩ = some (.int .i64 ts[i].dist) ∧ wr.cell? ⟨b, off + i * 3 + 2, none⟩ = some (.int .i64 ts[i].byte) := by
        rcases HT.out.below hb with h | h
        · rw [h] at hlt; simp at hlt
        · exact h
      subst ha
      obtain ⟨c0, c1, c2⟩ := hcell k hlt
      clear hcell
      have HN := Tok.expand_next ts k hlt out he.out
      generalize ts[k] = t at *
      obtain ⟨l, d, x⟩ := t
      simp only at c0 c1 c2
      have HN' : Hid _ := HN
      clear HN
      obtain ⟨ao, cp, rfl⟩ := hown.form
      have HO : Hid _ := hown
      clear hown
      go_wp2_with fail
      refine (form_calls l d x _).mono ?_
      rintro e w1 ⟨rfl, hb1⟩
      have hq1 : wr.heap.size < w1.heap.size := by have := hb1.size; simp at this; omega
      have hwz : w.heap.size ≤ wr.heap.size := hb.size
      have hbw : Below w.heap.size w w1 := (hb.alloc hwz _).trans (hb1.mono (by simp; omega))
      have hbox : Box w1 wr.heap.size l d x := Box.below (w := wr.alloc _) (heap_alloc_new wr _) hb1 (by simp)
      have hown : OwnB w1 w.heap.size (.slice ao out.length cp) out := (OwnB.alloc HO.out _).below hb1
      obtain ⟨x0, x1, x2⟩ := hbox.cell
      clear HO hb1 c0 c1 c2 hb
      have HB : Hid _ := hbox
      have HO : Hid _ := hown
      clear hbox hown
      generalize wr.heap.size = q at *
      by_cases hok : Tok.formB ⟨l, d, x⟩ = true ∧ d ≤ out.length ∧ l ≤ 64
      · obtain ⟨hform, hdo, hl64⟩ := hok
        have hi' := (Tok.form_iff _).1 hform
        have HM : Hid _ := mkN_step ⟨l, d, x⟩ out hform
        simp only at hi'
        have hl1 : 1 ≤ l := by omega
        obtain ⟨L, rfl⟩ : ∃ L : Nat, l = (L : Int) := ⟨l.toNat, by omega⟩
        obtain ⟨D, rfl⟩ : ∃ D : Nat, d = (D : Int) := ⟨d.toNat, by omega⟩
        go_wp2_with fail
        go_loopw [4, 8] (fun v i wq => ∃ (j : Nat), j ≤ L ∧ i = .int .i64 j ∧ OwnB wq w.heap.size v (mkN ⟨L, D, x⟩ out j) ∧ Box wq q L D x ∧ Below w.heap.size w wq) (fun _ i _ => L - (intOf i).toNat)
        case atStart => exact ⟨0, Nat.zero_le _, rfl, by rw [mkN_zero]; exact HO.out, HB.out, hbw⟩
        case round =>
          obtain ⟨j, hj, rfl, hownj, hboxj, hbj⟩ := hrel
          by_cases hjl : j < L
          · have hlen := mkN_length ⟨L, D, x⟩ out j
            have hlen1 : out.length ≤ (mkN ⟨L, D, x⟩ out j).length := by omega
            have hlen2 : (mkN ⟨L, D, x⟩ out j).length ≤ 127 := by omega
            clear hlen
            have hbq : w.heap.size ≤ wr.heap.size := hbj.size
            obtain ⟨y0, y1, y2⟩ := hboxj.cell
            have HBJ : Hid _ := hboxj
            clear hboxj
            by_cases hD : D = 0
            · have hsucc : Hid (mkN ⟨L, D, x⟩ out (j + 1) = mkN ⟨L, D, x⟩ out j ++ [UInt8.ofNat x.toNat]) := mkN_lit ⟨L, D, x⟩ out j (by simp [hD])
              generalize mkN ⟨L, D, x⟩ out j = o at *
              obtain ⟨ao', cp', rfl⟩ := hownj.form
              have HOJ : Hid _ := hownj
              clear hownj
              have hDn : ¬ 0 < (D : Int) := by omega
              have hx0 : 0 ≤ x := by omega
              have hx1 : x ≤ 255 := by omega
              clear hD hi'
              go_wp2_with (at_builtin; refine wpList_append_own _ rfl _ _ 22 rfl w.heap.size 5 i0 (.int .u8 0) 1 1 Try.underlying22 hi hz0 hz1 hz2 rfl (by decide) _ _ _ rfl (HOJ.out.alloc _) ⟨wr.heap.size, 0, none⟩ 1 1 [.int .u8 x] rfl rfl ?d1a ?d2a ?d3a ?d4a ?d5a ?_)
              case d2a => first | rfl | (intro u hu; simp at hu; subst hu; rfl)
              case d3a => unfold maxLen; omega
              case d4a => omega
              case d5a => first | omega | (simp; omega)
              intro v' w2 hown' hgrow _
              have hbw2 : Below w.heap.size w w2 := below_own (hbj.alloc (by omega) _) (HOJ.out.alloc _) hgrow (Nat.le_refl _) (by simp; omega)
              have hbox2 : Box w2 q L D x := Box.grown (Box.alloc HBJ.out _) (HOJ.out.alloc _) hgrow
              have hown2 : OwnB w2 w.heap.size v' (mkN ⟨L, D, x⟩ out (j + 1)) := by
                rw [hsucc.out]
                unfold OwnB
                have e5 : ((UInt8.ofNat x.toNat).toNat : Int) = x := by simp; omega
                rw [cellsB_snoc, List.length_append, e5]
                exact hown'
              clear hown' hgrow
              go_wp2
              go_roundw
              case rel => exact ⟨j + 1, by omega, by go_num, hown2, hbox2, hbw2⟩
              case measure => simp [intOf]; omega
            · have hsucc : Hid (mkN ⟨L, D, x⟩ out (j + 1) = mkN ⟨L, D, x⟩ out j ++ [(mkN ⟨L, D, x⟩ out j).getD ((mkN ⟨L, D, x⟩ out j).length - D) 0]) := mkN_copy ⟨L, D, x⟩ out j (by simp; omega)
              generalize mkN ⟨L, D, x⟩ out j = o at *
              obtain ⟨g, cq, hv, hg0, hg1, hgc⟩ := hownj.at (by omega)
              subst hv
              have hgc' := hgc (o.length - D) (by omega)
              clear hgc
              have HOJ : Hid _ := hownj
              clear hownj
              generalize o.getD (o.length - D) 0 = c at *
              have hcn : c.toNat < 256 := c.toNat_lt
              have hDp : 0 < (D : Int) := by omega
              have hx0 : x = 0 := by omega
              subst hx0
              clear hi'
              go_wp2_with (at_builtin; refine wpList_append_own _ rfl _ _ 22 rfl w.heap.size 5 i0 (.int .u8 0) 1 1 Try.underlying22 hi hz0 hz1 hz2 rfl (by decide) _ _ _ rfl (HOJ.out.alloc _) ⟨wr.heap.size, 0, none⟩ 1 1 [.int .u8 c.toNat] rfl rfl ?d1b ?d2b ?d3b ?d4b ?d5b ?_)
              case d1b => intro j u hj; exact cell_new1 _ _ _ j u hj
              case d2b => first | rfl | (intro u hu; simp at hu; subst hu; rfl)
              case d3b => unfold maxLen; omega
              case d4b => omega
              case d5b => first | omega | (simp; omega)
              intro v' w2 hown' hgrow _
              have hbw2 : Below w.heap.size w w2 := below_own (hbj.alloc (by omega) _) (HOJ.out.alloc _) hgrow (Nat.le_refl _) (by simp; omega)
              have hbox2 : Box w2 q L D 0 := Box.grown (Box.alloc HBJ.out _) (HOJ.out.alloc _) hgrow
              have hown2 : OwnB w2 w.heap.size v' (mkN ⟨L, D, 0⟩ out (j + 1)) := by
                rw [hsucc.out]
                unfold OwnB
                rw [cellsB_snoc, List.length_append]
                exact hown'
              clear hown' hgrow
              go_wp2
              go_roundw
              case rel => exact ⟨j + 1, by omega, by go_num, hown2, hbox2, hbw2⟩
              case measure => simp [intOf]; omega
          · have hje : j = L := by omega
            have hs : mkN ⟨L, D, x⟩ out j = Tok.step out ⟨L, D, x⟩ := by rw [← HM.out, hje]; rfl
            have hlen := mkN_length ⟨L, D, x⟩ out j
            rw [hs] at hownj hlen
            clear hs
            obtain ⟨y0, y1, y2⟩ := hboxj.cell
            clear hboxj
            by_cases hfit : (L : Int) ≤ 64 - (out.length : Int)
            · have hf : Tok.fitsB ⟨L, D, x⟩ out.length = true := (Tok.fits_iff _ _).2 ⟨hi', hdo, hfit⟩
              have HN3 : Hid (Tok.expand [] (ts.take (k + 1)) = some (Tok.step out ⟨L, D, x⟩)) := by show _ = _; rw [HN'.out, if_pos hf]
              have hlen2 : (Tok.step out ⟨L, D, x⟩).length ≤ 64 := by omega
              clear hlen hf HN' HM
              generalize Tok.step out ⟨L, D, x⟩ = o at *
              obtain ⟨ao', cp', rfl⟩ := hownj.form
              have HOJ : Hid _ := hownj
              clear hownj
              go_wp2
              go_roundw
              case rel => exact ⟨k + 1, _, by omega, by go_num, HN3, by omega, HOJ.out, hbj⟩
              case measure => simp [intOf]; omega
            · have hf : ¬ Tok.fitsB ⟨L, D, x⟩ out.length = true := fun h => hfit ((Tok.fits_iff _ _).1 h).2.2
              have HE : Hid (Tok.expand [] ts = none) := Tok.expand_stop ts k (by rw [HN'.out, if_neg hf])
              have hlen2 : 64 < (Tok.step out ⟨L, D, x⟩).length := by omega
              have hlen3 : (Tok.step out ⟨L, D, x⟩).length ≤ 128 := by omega
              clear hlen hf HN' HM
              generalize Tok.step out ⟨L, D, x⟩ = o at *
              obtain ⟨ao', cp', rfl⟩ := hownj.form
              clear hownj
              go_wp2
              go_ret2
              exact ⟨hbj, .inl ⟨HE.out, rfl⟩⟩
      · have HE : Hid (Tok.expand [] ts = none) := by
          refine Tok.expand_stop ts k ?_
          rw [HN'.out, if_neg]
          intro h
          have := (Tok.fits_iff _ _).1 h
          simp only at this
          exact hok ⟨(Tok.form_iff _).2 this.1, this.2.1, by omega⟩
        by_cases hform : Tok.formB ⟨l, d, x⟩ = true
        · by_cases hdo : d ≤ out.length
          · have hl64 : 64 < l := by
              rcases Int.lt_or_le 64 l with h | h
              · exact h
              · exact absurd ⟨hform, hdo, h⟩ hok
            clear hok
            go_wp2
            go_ret2
            exact ⟨hbw, .inl ⟨HE.out, rfl⟩⟩
          · clear hok
            go_wp2
            go_ret2
            exact ⟨hbw, .inl ⟨HE.out, rfl⟩⟩
        · have hff : Tok.formB ⟨l, d, x⟩ = false := by simpa using hform
          clear hok hform
          go_wp2
          go_ret2
          exact ⟨hbw, .inl ⟨HE.out, rfl⟩⟩
    · have hke : k = ts.length := by omega
      have HE : Hid (Tok.expand [] ts = some out) := by have := he.out; rw [hke, List.take_length] at this; exact this
      clear hke
      have HO : Hid _ := hown
      clear hown
      go_wp2
      go_ret2
      exact ⟨hb, .inr ⟨out, _, HE.out, hm, rfl, HO.out⟩⟩
end Go.Proofs.Ytnpnaglgllcpfaa
