/-
  The law Steady, out of what Parse, Ways, Nth, Compress and Decompress answer.
-/
import Derived.Test.YtnpnaglgllcpfabLeast0
import Derived.Test.YtnpnaglgllcpfabBack1
import Derived.Test.YtnpnaglgllcpfabApp
import Derived.Test.YtnpnaglgllcpfabOpenStrs
namespace Go.Proofs.Ytnpnaglgllcpfab
set_option maxRecDepth 100000
open Go.RowKit

theorem cellsT_one (ts : List Tok) : ∀ u ∈ cellsT ts, u.oneCell' = true := by
  intro u hu
  unfold cellsT at hu
  obtain ⟨t, _, h⟩ := List.mem_flatMap.1 hu
  simp at h
  rcases h with rfl | rfl | rfl <;> rfl
theorem row_new0 (w : World) (B z : Nat) (e : TypeId) (hB : B ≤ w.heap.size) : (w.alloc (.cells #[] e)).ownsRow B e z (.slice (some ⟨w.heap.size, 0, none⟩) 0 0) 0 [] :=
  ⟨by simp, .inr ⟨w.heap.size, 0, #[], rfl, hB, heap_alloc_new w _, Nat.le_refl _, Nat.zero_le _, by simp, by simp⟩⟩
theorem row_stays {w w' : World} {B n z : Nat} {e : TypeId} {v : Value} {xs : List Value} {row : Option Nat} (h : w.ownsRow B e z v n xs) (hg : w.grownBy w' row) (hr : ∀ k, row = some k → k < B) : w'.ownsRow B e z v n xs := by
  refine World.ownsRow.kept h hg ?_
  cases hv : v.ownBlock with
  | none => exact .inl rfl
  | some b =>
    refine .inr fun e => ?_
    have h1 := (h.lt b hv).1
    have h2 := hr b e.symm
    omega

set_option maxHeartbeats 4000000 in
theorem steadyLaw_calls (f : List UInt8 → List Tok) (nf : List UInt8 → Int → List Tok) (hf : Chosen f) (hP : ParseSaid f) (hW : WaysSaid) (hC : CompressSaid f) (hD : DecSaid) (hN : NthSaid nf) (s : ByteArray) (ra : Option Addr) (os : List ByteArray) (rc : Nat) (w : World) (hrl : os.length ≤ 9223372036854775807) (hr : StrsAt w ra os) :
    Calls Try.prog 9 #[.string s, .slice ra os.length rc] w fun e w' => e = .returned (.bool true) ∧ Below w.heap.size w w' := by
  have HF : Hid (Chosen f) := hf
  have HP : Hid (ParseSaid f) := hP
  have HW : Hid WaysSaid := hW
  have HC : Hid (CompressSaid f) := hC
  have HD : Hid DecSaid := hD
  have HN : Hid (NthSaid nf) := hN
  have HR : Hid (StrsAt w ra os) := hr
  clear hf hP hW hr hC hD hN
  go_enter Try.func9, Try.ntmps9
  go_wp2_with fail
  refine (some_calls s 2048 w (by omega)).mono ?_
  rintro e w1 ⟨hb1, c1, rfl, hc1, hby1⟩
  have HB1 : Hid (Below w.heap.size w w1) := hb1
  have hdl : (firstOf s 2048).length ≤ 2048 := by unfold firstOf; rw [List.length_take]; omega
  generalize firstOf s 2048 = data at *
  have HBD1 : Hid (BytesAt w1 (some ⟨w.heap.size, 0, none⟩) data) := hby1
  clear hb1 hby1
  go_wp2_with fail
  refine (some_calls s 64 w1 (by omega)).mono ?_
  rintro e w2 ⟨hb2, c2, rfl, hc2, hby2⟩
  have HB2 : Hid (Below w.heap.size w w2) := HB1.out.trans (hb2.mono HB1.out.size)
  have hpl : (firstOf s 64).length ≤ 64 := by unfold firstOf; rw [List.length_take]; omega
  generalize firstOf s 64 = p at *
  have HBD2 : Hid (BytesAt w2 (some ⟨w.heap.size, 0, none⟩) data) := bytesAt_below2 HBD1.out hb2
  have HBP2 : Hid (BytesAt w2 (some ⟨w1.heap.size, 0, none⟩) p) := hby2
  obtain ⟨hbx, hbc⟩ := (bestB_iff p (f p)).1 (HF.out p hpl)
  have HBX : Hid (Tok.expand [] (f p) = some p) := hbx
  have HBC : Hid (Tok.costs (f p) = leastC p) := hbc
  clear hb2 hby2 hbx hbc
  generalize hda : (⟨w.heap.size, 0, none⟩ : Addr) = da at *
  generalize hpa : (⟨w1.heap.size, 0, none⟩ : Addr) = pa at *
  clear hda hpa
  go_wp2_with fail
  refine (HP.out _ p c2 w2 (by omega) HBP2.out).mono ?_
  rintro e w3 ⟨hb3, ⟨hlong, _⟩ | ⟨_, v, rfl, hrow3⟩⟩
  · omega
  have HB3 : Hid (Below w2.heap.size w2 w3) := hb3
  have htm := own_max hrow3
  have HTR3 : Hid (TokRow w3 w2.heap.size v (f p)) := hrow3
  obtain ⟨ta, tc, rfl⟩ := hrow3.form
  clear hb3 hrow3
  go_wp2_with fail
  refine (HW.out _ p c2 w3 (by omega) (bytesAt_below2 HBP2.out HB3.out)).mono ?_
  rintro e w4 ⟨hb4, ⟨hlong, _⟩ | ⟨_, rfl⟩⟩
  · omega
  have HB4 : Hid (Below w2.heap.size w2 w4) := HB3.out.trans (hb4.mono HB3.out.size)
  have HTR4 : Hid (TokRow w4 w2.heap.size (.slice ta (f p).length tc) (f p)) := HTR3.out.below hb4
  have hlc := leastC_le p
  have hu2 := (cap9_range (leastW p)).2
  generalize hU : cap9 (leastW p : Int) = U at *
  clear hU
  clear hb4
  go_wp2_with fail
  refine (HC.out _ data c1 w4 (by omega) hc1 (bytesAt_below2 HBD2.out HB4.out)).mono ?_
  rintro e w5 ⟨hb5, ⟨hlong, _⟩ | ⟨_, v, rfl, hown5⟩⟩
  · omega
  have HB5 : Hid (Below w2.heap.size w2 w5) := HB4.out.trans (hb5.mono HB4.out.size)
  have HTR5 : Hid (TokRow w5 w2.heap.size (.slice ta (f p).length tc) (f p)) := HTR4.out.below hb5
  have hsm := own_max hown5
  have HOS5 : Hid (OwnB w5 w4.heap.size v (streamOf f data)) := hown5
  obtain ⟨so, sc, rfl⟩ := hown5.form
  obtain ⟨ends, hrd⟩ := stream_read HF.out data hdl
  have HRD : Hid (rRead (streamOf f data) = (0, toksOf f data, data, ends)) := hrd
  have HST : Hid (streamOf f data = streamOf f data) := rfl
  clear hb5 hown5 hrd
  generalize hst : streamOf f data = st at *
  go_wp2_with fail
  refine (HD.out so st sc w5 (by omega) (ownB_bytes HOS5.out)).mono ?_
  rintro e w6 ⟨hb6, v6, out6, rfl, hown6, hz6, _⟩
  rw [HRD.out] at hz6 ⊢
  have ho6 : out6 = data := hz6 rfl
  subst ho6
  have HB6 : Hid (Below w2.heap.size w2 w6) := HB5.out.trans (hb6.mono HB5.out.size)
  have HTR6 : Hid (TokRow w6 w2.heap.size (.slice ta (f p).length tc) (f p)) := HTR5.out.below hb6
  have HOS6 : Hid (OwnB w6 w4.heap.size (.slice so st.length sc) st) := HOS5.out.below hb6
  obtain ⟨yo, yc, rfl⟩ := hown6.form
  have HY6 : Hid (BytesAt w6 yo out6) := ownB_bytes hown6
  clear hb6 hown6 hz6
  go_wp2_with fail
  refine (makes_calls ta _ (f p) p tc c2 _ _ htm hpl (TokRow.toks HTR6.out) (bytesAt_below2 HBP2.out HB6.out) HBX.out HBC.out).mono ?_
  rintro e w7 ⟨hb7, rfl⟩
  have HB7 : Hid (Below w2.heap.size w2 w7) := HB6.out.trans (hb7.mono HB6.out.size)
  have HTR7 : Hid (TokRow w7 w2.heap.size (.slice ta (f p).length tc) (f p)) := HTR6.out.below hb7
  have HOS7 : Hid (OwnB w7 w4.heap.size (.slice so st.length sc) st) := HOS6.out.below hb7
  have k1 := conv_bytes yc (bytesAt_below2 HY6.out hb7)
  have k2 := conv_bytes c1 (bytesAt_below2 HBD2.out HB7.out)
  clear hb7
  obtain ⟨it, hti, htz0, htz1, htz2⟩ := info_parts infoTok
  have htl : (f p).length ≤ 64 := by have := Tok.expand_many (f p) [] p HBX.out; simp at this; omega
  go_wp2_with (at_builtin; refine wpList_append_row rfl _ _ 34 rfl w7.heap.size 60 it (.agg #[.int .i64 0, .int .i64 0, .int .i64 0]) 3 24 Try.underlying34 hti htz0 htz1 htz2 rfl (by decide) _ _ _ rfl (row_new0 w7 _ _ _ (Nat.le_refl _)) w2.heap.size _ (f p).length (cellsT (f p)) rfl (World.ownsRow.alloc HTR7.out _) (cellsT_one _) (by unfold maxLen; omega) (by omega) (by simp) ?_)
  intro v' w8 hown' hgrow
  have hb8 : Below w7.heap.size w7 w8 := ((Below.refl _ _).alloc (Nat.le_refl _) _).grown hgrow (by simp) (fun k hk => by simp [Value.ownBlock] at hk; omega)
  have HB8 : Hid (Below w2.heap.size w2 w8) := HB7.out.trans (hb8.mono HB7.out.size)
  have HTR8 : Hid (TokRow w8 w2.heap.size (.slice ta (f p).length tc) (f p)) := HTR7.out.below hb8
  have HOS8 : Hid (OwnB w8 w4.heap.size (.slice so st.length sc) st) := HOS7.out.below hb8
  have HV8 : Hid (TokRow w8 w7.heap.size v' (f p)) := hown'
  have k3 := conv_own HOS8.out
  have HS7 : Hid (∀ k, (Value.slice ta (f p).length tc).ownBlock = some k → w2.heap.size ≤ k ∧ k < w7.heap.size) := HTR7.out.lt
  have HS8 : Hid (∀ k, (Value.slice so st.length sc).ownBlock = some k → w4.heap.size ≤ k ∧ k < w7.heap.size) := HOS7.out.lt
  have HZ7 : Hid (w7.heap.size ≤ w8.heap.size) := hb8.size
  have HZ4 : Hid (w2.heap.size ≤ w4.heap.size) := HB4.out.size
  obtain ⟨va, vc, rfl⟩ := TokRow.form hown'
  clear hown' hgrow hb8
  clear HTR3 HTR4 HTR5 HTR6 HTR7 HOS5 HOS6 HOS7 HY6
  go_wp2_with fail
  clear k1 k2 k3
  go_loopg [19] (f p).length (fun g iv wr => ∃ k : Nat, k ≤ (f p).length ∧ g = (f p).length - k ∧ iv = .int .i64 k ∧ Hid (w8.grownBy wr (Value.slice ta (f p).length tc).ownBlock) ∧ Hid (∃ xs, wr.ownsRow w2.heap.size 60 3 (.slice ta (f p).length tc) (f p).length xs))
  case atStart => exact ⟨0, by omega, rfl, rfl, grown_refl _ _, _, HTR8.out⟩
  case round =>
    obtain ⟨k, hk, hg, rfl, HG1, HO1⟩ := hrel
    have HG : Hid _ := hg
    clear hg
    by_cases hlt : k < (f p).length
    · obtain ⟨xs, hrow⟩ := HO1.out
      obtain ⟨g, rfl⟩ : ∃ g, ta = some ⟨g, 0, none⟩ := by
        rcases hrow.2 with ⟨h, h0⟩ | ⟨g, c, cur, h, _⟩
        · omega
        · simp at h; exact ⟨g, h.1⟩
      have hxl : xs.length = (f p).length * 3 := hrow.1
      obtain ⟨y0, hy0⟩ : ∃ y, wr.cell? ⟨g, k * 3, none⟩ = some y := ⟨_, by rw [hrow.cellAt (k * 3) (by omega)]; exact List.getElem?_eq_getElem (by omega)⟩
      obtain ⟨y1, hy1⟩ : ∃ y, wr.cell? ⟨g, k * 3 + 1, none⟩ = some y := ⟨_, by rw [hrow.cellAt (k * 3 + 1) (by omega)]; exact List.getElem?_eq_getElem (by omega)⟩
      obtain ⟨y2, hy2⟩ : ∃ y, wr.cell? ⟨g, k * 3 + 2, none⟩ = some y := ⟨_, by rw [hrow.cellAt (k * 3 + 2) (by omega)]; exact List.getElem?_eq_getElem (by omega)⟩
      have hf0 := hrow.frozenAt (k * 3)
      have hf1 := hrow.frozenAt (k * 3 + 1)
      have hf2 := hrow.frozenAt (k * 3 + 2)
      have hgl : g < wr.heap.size := World.block_lt_of_cell? wr _ hy0
      have hkI : 0 ≤ (k : Int) ∧ (k : Int) < ((f p).length : Int) := by omega
      have HR1 : Hid _ := hrow
      clear hrow hxl
      go_wp2
      go_roundg ((f p).length - (k + 1))
      case measure => have := HG.out; omega
      case rel =>
        refine ⟨k + 1, by omega, rfl, by go_num, grown_set (grown_set (grown_set HG1.out rfl _ _) rfl _ _) rfl _ _, ?_⟩
        exact ⟨_, (World.ownsRow.stored (World.ownsRow.stored (World.ownsRow.stored HR1.out (k * 3) _).1 (k * 3 + 1) _).1 (k * 3 + 2) _).1⟩
    · have hlt' : ¬ (k : Int) < ((f p).length : Int) := by omega
      have HB9 : Hid (Below w2.heap.size w2 wr) := HB8.out.grown HG1.out HB8.out.size (fun k hk => (HS7.out k hk).1)
      have HV9 : Hid (TokRow wr w7.heap.size (.slice va (f p).length vc) (f p)) := row_stays HV8.out HG1.out (fun k hk => (HS7.out k hk).2)
      have HO9 : Hid (OwnB wr w4.heap.size (.slice so st.length sc) st) := World.ownsRow.kept HOS8.out HG1.out (own_ne HOS8.out HTR8.out (by decide))
      have HZ9 : Hid (w7.heap.size ≤ wr.heap.size) := Nat.le_trans HZ7.out HG1.out.size
      clear HG1 HO1 HTR8 HOS8 HV8 HG HB8
      generalize wr = w9 at *
      go_wp2_with fail
      go_loopg [20] st.length (fun g iv wr => ∃ k : Nat, k ≤ st.length ∧ g = st.length - k ∧ iv = .int .i64 k ∧ Hid (w9.grownBy wr (Value.slice so st.length sc).ownBlock) ∧ Hid (∃ xs, wr.ownsRow w4.heap.size 5 1 (.slice so st.length sc) st.length xs))
      case atStart => exact ⟨0, by omega, rfl, rfl, grown_refl _ _, _, HO9.out⟩
      case round =>
        obtain ⟨k2, hk2, hg, rfl, HG1, HO1⟩ := hrel
        have HG : Hid _ := hg
        clear hg
        by_cases hlt2 : k2 < st.length
        · obtain ⟨xs, hrow⟩ := HO1.out
          obtain ⟨g, rfl⟩ : ∃ g, so = some ⟨g, 0, none⟩ := by
            rcases hrow.2 with ⟨h, h0⟩ | ⟨g, c, cur, h, _⟩
            · omega
            · simp at h; exact ⟨g, h.1⟩
          have hxl : xs.length = st.length * 1 := hrow.1
          obtain ⟨y0, hy0⟩ : ∃ y, wr.cell? ⟨g, k2, none⟩ = some y := ⟨_, by rw [hrow.cellAt k2 (by omega)]; exact List.getElem?_eq_getElem (by omega)⟩
          have hf0 := hrow.frozenAt k2
          have hgl : g < wr.heap.size := World.block_lt_of_cell? wr _ hy0
          have hkI : 0 ≤ (k2 : Int) ∧ (k2 : Int) < (st.length : Int) := by omega
          have HR1 : Hid _ := hrow
          clear hrow hxl
          go_wp2
          go_roundg (st.length - (k2 + 1))
          case measure => have := HG.out; omega
          case rel => exact ⟨k2 + 1, by omega, rfl, by go_num, grown_set HG1.out rfl _ _, _, (World.ownsRow.stored HR1.out k2 _).1⟩
        · have hlt2' : ¬ (k2 : Int) < (st.length : Int) := by omega
          have HBA : Hid (Below w2.heap.size w2 wr) := HB9.out.grown HG1.out HB9.out.size (fun k hk => Nat.le_trans HZ4.out (HS8.out k hk).1)
          have HVA : Hid (TokRow wr w7.heap.size (.slice va (f p).length vc) (f p)) := row_stays HV9.out HG1.out (fun k hk => (HS8.out k hk).2)
          clear HG1 HO1 HV9 HO9 HG HB9
          generalize wr = wa at *
          go_wp2_with fail
          go_loopg [21] os.length (fun g iv wr => ∃ k : Nat, k ≤ os.length ∧ g = os.length - k ∧ iv = .int .i64 k ∧ Hid (Below wa.heap.size wa wr))
          case atStart => exact ⟨0, by omega, rfl, rfl, Below.refl _ _⟩
          case round =>
            obtain ⟨k3, hk3, hg, rfl, HBW⟩ := hrel
            have HG : Hid _ := hg
            clear hg
            have HBWw : Hid (Below w.heap.size w wr) := HB2.out.trans ((HBA.out.trans (HBW.out.mono HBA.out.size)).mono HB2.out.size)
            by_cases hlt3 : k3 < os.length
            · obtain ⟨rb, ro, rfl, hrb, hcell⟩ : ∃ b off, ra = some ⟨b, off, none⟩ ∧ b < wr.heap.size ∧ ∀ i (hi : i < os.length), wr.cell? ⟨b, off + i, none⟩ = some (.string os[i]) ∧ os[i].size ≤ 9223372036854775807 := by
                rcases HR.out.below HBWw.out with h | h
                · rw [h] at hlt3; simp at hlt3
                · exact h
              obtain ⟨hc3, hz3⟩ := hcell k3 hlt3
              clear hcell
              generalize os[k3] = o at *
              have hconv := fun wx => run_bytes_of_string (P := Try.prog) wx 9 22 5 o Try.underlying9 Try.underlying22 Try.underlying5
              have hkI : 0 ≤ (k3 : Int) ∧ (k3 : Int) < (os.length : Int) := by omega
              have HL : Hid (o.data.toList.length = o.size) := rfl
              have HBO : Hid _ := BytesAt.new o wr (grownCap wr o.size 0 5) ((bytesRow o (grownCap wr o.size 0 5)).size, (bytesRow o (grownCap wr o.size 0 5)).size + 1)
              have HBB : Hid (Below wr.heap.size wr ((wr.alloc (.cells (bytesRow o (grownCap wr o.size 0 5)) 5 ((bytesRow o (grownCap wr o.size 0 5)).size, (bytesRow o (grownCap wr o.size 0 5)).size + 1))).drew)) := ((Below.refl _ _).alloc (Nat.le_refl _) _).drew
              have hge := grownCap_ge wr o.size 0 5
              go_wp2_with fail
              clear hconv hc3
              generalize ((wr.alloc (.cells (bytesRow o (grownCap wr o.size 0 5)) 5 ((bytesRow o (grownCap wr o.size 0 5)).size, (bytesRow o (grownCap wr o.size 0 5)).size + 1))).drew) = u1 at *
              generalize (⟨wr.heap.size, 0, none⟩ : Addr) = oa at *
              generalize grownCap wr o.size 0 5 = oc at *
              generalize hol : o.data.toList = ol at *
              have HLL : Hid (o.size = ol.length) := HL.out.symm
              clear HL
              rw [HLL.out] at hz3 hge ⊢
              refine (HC.out _ ol oc u1 hz3 hge HBO.out).mono ?_
              rintro e u2 ⟨hb2, hor⟩
              obtain ⟨x2, rfl⟩ : ∃ x, e = .returned x := by
                rcases hor with ⟨_, ta', c', rfl⟩ | ⟨_, v', rfl, _⟩
                · exact ⟨_, rfl⟩
                · exact ⟨_, rfl⟩
              have HU2 : Hid (Below u1.heap.size u1 u2) := hb2
              clear hb2 hor
              go_wp2_with fail
              refine (HP.out _ ol oc u2 hz3 (bytesAt_below2 HBO.out HU2.out)).mono ?_
              rintro e u3 ⟨hb3, hor⟩
              obtain ⟨x3, rfl⟩ : ∃ x, e = .returned x := by
                rcases hor with ⟨_, ta', c', rfl⟩ | ⟨_, v', rfl, _⟩
                · exact ⟨_, rfl⟩
                · exact ⟨_, rfl⟩
              have HU3 : Hid (Below u1.heap.size u1 u3) := HU2.out.trans (hb3.mono HU2.out.size)
              clear hb3 hor
              go_wp2_with fail
              refine (HD.out _ ol oc u3 hz3 (bytesAt_below2 HBO.out HU3.out)).mono ?_
              rintro e u4 ⟨hb4, v4, o4, rfl, _⟩
              have HU4 : Hid (Below u1.heap.size u1 u4) := HU3.out.trans (hb4.mono HU3.out.size)
              clear hb4
              generalize (rRead ol).1 = E4 at *
              go_wp2_with fail
              refine (HN.out _ ol oc k3 u4 hz3 (bytesAt_below2 HBO.out HU4.out)).mono ?_
              rintro e u5 ⟨hb5, v5, ts5, c5, rfl, _⟩
              have HU5 : Hid (Below u1.heap.size u1 u5) := HU4.out.trans (hb5.mono HU4.out.size)
              clear hb5
              go_wp2
              go_roundg (os.length - (k3 + 1))
              case measure => have := HG.out; omega
              case rel => exact ⟨k3 + 1, by omega, rfl, by go_num, HBW.out.trans ((HBB.out.trans (HU5.out.mono HBB.out.size)).mono HBW.out.size)⟩
            · have hlt3' : ¬ (k3 : Int) < (os.length : Int) := by omega
              have HBE : Hid (Below w2.heap.size w2 wr) := HBA.out.trans (HBW.out.mono HBA.out.size)
              have HVE : Hid (TokRow wr w7.heap.size (.slice va (f p).length vc) (f p)) := HVA.out.below HBW.out
              clear HBW HBA HVA HG
              generalize wr = we at *
              go_wp2_with fail
              refine (HP.out _ p c2 we (by omega) (bytesAt_below2 HBP2.out HBE.out)).mono ?_
              rintro e wf ⟨hbf, ⟨hlong, _⟩ | ⟨_, v, rfl, hrowf⟩⟩
              · omega
              have HBF : Hid (Below w2.heap.size w2 wf) := HBE.out.trans (hbf.mono HBE.out.size)
              have HVF : Hid (TokRow wf w7.heap.size (.slice va (f p).length vc) (f p)) := HVE.out.below hbf
              have HRF : Hid (TokRow wf we.heap.size v (f p)) := hrowf
              obtain ⟨ha, hc, rfl⟩ := hrowf.form
              clear hbf hrowf
              go_wp2_with fail
              refine (HC.out _ out6 c1 wf (by omega) hc1 (bytesAt_below2 HBD2.out HBF.out)).mono ?_
              rintro e wg ⟨hbg, ⟨hlong, _⟩ | ⟨_, v, rfl, howng⟩⟩
              · omega
              have HBG : Hid (Below w2.heap.size w2 wg) := HBF.out.trans (hbg.mono HBF.out.size)
              have HVG : Hid (TokRow wg w7.heap.size (.slice va (f p).length vc) (f p)) := HVF.out.below hbg
              have HRG : Hid (TokRow wg we.heap.size (.slice ha (f p).length hc) (f p)) := HRF.out.below hbg
              rw [hst] at howng
              have HOG : Hid (OwnB wg wf.heap.size v st) := howng
              obtain ⟨ga, gc, rfl⟩ := howng.form
              clear hbg howng
              go_wp2_with fail
              refine (same_calls va ha (f p) vc hc wg htm (TokRow.toks HVG.out) (TokRow.toks HRG.out)).mono ?_
              rintro e _ ⟨rfl, nd, rfl⟩
              have k5 := conv_own (w := wg.drewN nd) (HOG.out.below (below_drewN (Below.refl _ _) nd))
              have k5' := fun n => conv_own (w := (wg.drewN nd).drewN n) ((HOG.out.below (below_drewN (Below.refl _ _) nd)).below (below_drewN (Below.refl _ _) n))
              go_wp2
              go_ret
              exact ⟨rfl, HB2.out.trans ((below_drewN HBG.out nd).mono HB2.out.size)⟩
end Go.Proofs.Ytnpnaglgllcpfab
