/-
  The law Again: its walk.
-/
import Derived.Test.YtnpnaglgllcpfaaAgain0
import Derived.Test.YtnpnaglgllcpfaaKp2
import Derived.Test.YtnpnaglgllcpfaaConv
namespace Go.Proofs.Ytnpnaglgllcpfaa
set_option maxRecDepth 100000
open Go.RowKit

set_option maxHeartbeats 2000000 in
theorem againLaw_calls (hD : DecSaid) (hU : UnpSaid) (whole last : Int) (hwh : In64 whole) (hla : In64 last) (a : Option Addr) (raw : List Int) (cap : Nat) (w : World) (hl : raw.length ≤ 9223372036854775807) (ht : RawAt w a raw) :
    Calls Try.prog 13 #[.int .i64 whole, .int .i64 last, .slice a raw.length cap] w fun e w' => e = .returned (.bool true) ∧ Below w.heap.size w w' := by
  have HD : Hid DecSaid := hD
  have HU : Hid UnpSaid := hU
  have HT : Hid (RawAt w a raw) := ht
  have HLA : Hid (In64 last) := hla
  have HWH : Hid (In64 whole) := hwh
  clear hD hU ht hla hwh
  obtain ⟨ip, hpi, hpz0, hpz1, hpz2⟩ := info_parts infoToks
  go_enter Try.func13, Try.ntmps13
  go_wp2_with fail
  refine (pick_calls whole _ _ HWH.out (by omega) (by omega)).mono ?_
  rintro e w0 ⟨⟨n, hn0, hn4, rfl⟩, rfl⟩
  obtain ⟨n, rfl⟩ := Int.eq_ofNat_of_zero_le hn0
  have hn : n < 4 := by omega
  clear hn0 hn4 HWH
  go_wp2_with fail
  go_loopw [7, 8, 10] (fun vl vw vi wr => ∃ (ps : List (List Tok)) (k : Nat), k ≤ n + 1 ∧ vi = .int .i64 k ∧ ps.length = k ∧ vw = .string (wantOf ps) ∧ Hid (∀ i, i < k → okAt (n + 1) i (ps.getD i []) = true) ∧ (wantOf ps).size ≤ 64 * k ∧ PR wr w0.heap.size vl ps ∧ Below w0.heap.size w0 wr) (fun _ _ i _ => n + 1 - (intOf i).toNat)
  case atStart => exact ⟨[], 0, by omega, rfl, rfl, rfl, fun i hi => by omega, by simp [wantOf, ByteArray.size], PR.nil _ _, Below.refl _ _⟩
  case round =>
    obtain ⟨ps, k, hk, rfl, rfl, rfl, hok, hsz, hpr, hb⟩ := hrel
    obtain ⟨la, lc, hvl, _, _⟩ := hpr.at
    subst hvl
    have HP : Hid (PR wr w0.heap.size _ ps) := hpr
    have HB : Hid (Below w0.heap.size w0 wr) := hb
    clear hpr hb
    by_cases hle : ps.length ≤ n
    · have HC : Hid ((11 : Int) * (ps.length : Int) = ((11 * ps.length : Nat) : Int)) := by show _ = _; omega
      by_cases hkn : ps.length = n
      · subst hkn
        have heq : ((ps.length : Int) == (ps.length : Int)) = true := by simp
        go_wp2_with fail
        refine (pick_calls last _ _ HLA.out (by omega) (by omega)).mono ?_
        rintro e wx ⟨⟨r, hr0, hr1, rfl⟩, rfl⟩
        obtain ⟨R, rfl⟩ := Int.eq_ofNat_of_zero_le hr0
        have hR : R < 64 := by omega
        have HC2 : Hid ((1 : Int) + (R : Int) = ((1 + R : Nat) : Int)) := by show _ = _; omega
        clear hr0 hr1
        go_wp2_with fail
        rw [HC.out, HC2.out]
        refine (drawn_calls (1 + R) a raw cap (11 * ps.length) _ (by omega) (by omega) hl (HT.out.below HB.out)).mono ?_
        rintro e w1 ⟨hb1, v, ts, out, rfl, hrow, hex, hol⟩
        obtain ⟨ta, tc, rfl⟩ := TokRow.form hrow
        have HROW : Hid (TokRow w1 wx.heap.size (.slice ta ts.length tc) ts) := hrow
        have HEX : Hid (Tok.expand [] ts = some out) := hex
        have htl : ts.length ≤ 64 := by have := Tok.expand_many ts [] out hex; simp at this; omega
        have HP1 : Hid (PR w1 w0.heap.size (.slice la ps.length lc) ps) := PR.below HP.out hb1
        have HB1 : Hid (Below w0.heap.size w0 w1) := HB.out.trans (hb1.mono HB.out.size)
        have hs1 : wx.heap.size ≤ w1.heap.size := hb1.size
        have hs0 : w0.heap.size ≤ wx.heap.size := HB.out.size
        clear hrow hex hb1 HP HB
        go_wp2_with fail
        refine (made_calls ta ts out tc _ (by omega) (TokRow.toks HROW.out) HEX.out).mono ?_
        rintro e w2 ⟨hb2, v2, rfl, hown⟩
        obtain ⟨oa, oc, rfl⟩ := hown.form
        have HOW : Hid (OwnB w2 w1.heap.size (.slice oa out.length oc) out) := hown
        have HROW2 : Hid (TokRow w2 w0.heap.size (.slice ta ts.length tc) ts) := TokRow.below (tokrow_le HROW.out hs0) hb2
        have HP2 : Hid (PR w2 w0.heap.size (.slice la ps.length lc) ps) := PR.below HP1.out hb2
        have HB2 : Hid (Below w0.heap.size w0 w2) := HB1.out.trans (hb2.mono HB1.out.size)
        have hs2 : w1.heap.size ≤ w2.heap.size := hb2.size
        clear hown hb2 HROW HP1 HB1
        obtain ⟨vs, hpo, hpr⟩ := HP2.out.pieces
        have HPO : Hid (w2.ownsRow w0.heap.size 25 1 (.slice la ps.length lc) ps.length vs) := hpo
        have HPR : Hid _ := hpr
        clear hpo hpr
        go_wp2_with (at_builtin; refine wpList_append_own _ rfl _ _ 29 rfl w0.heap.size 25 ip (.slice none 0 0) 1 24 Try.underlying29 hpi hpz0 hpz1 hpz2 rfl (by decide) _ _ _ rfl (HPO.out.alloc _) ⟨w2.heap.size, 0, none⟩ 1 1 [.slice ta ts.length tc] rfl rfl ?p1 ?p2 ?p3 ?p4 ?p5 ?_)
        case p1 => intro j u hj; exact cell_new1 _ _ _ j u hj
        case p2 => first | rfl | (intro u hu; simp at hu; subst hu; rfl)
        case p3 => unfold maxLen; omega
        case p4 => omega
        case p5 => simp; omega
        intro v' w3 hown3 hgrow3 _
        have HP3 : Hid (PR w3 w0.heap.size v' (ps ++ [ts])) := pr_snoc HPO.out HPR.out HROW2.out hown3 hgrow3
        have HO3 : Hid (OwnB w3 w1.heap.size (.slice oa out.length oc) out) := World.ownsRow.kept (HOW.out.alloc _) hgrow3 (own_ne HOW.out HPO.out (by decide))
        have HB3 : Hid (Below w0.heap.size w0 w3) := (HB2.out.alloc (by omega) _).grown hgrow3 (by simp; omega) (fun k hk => (World.ownsRow.lt HPO.out k hk).1)
        have k1 := conv_own HO3.out
        rw [hol] at k1
        have HW : Hid (wantOf (ps ++ [ts]) = wantOf ps ++ ⟨out.toArray⟩) := wantOf_snoc HEX.out
        clear hown3 hgrow3
        have HOK : Hid (okAt (ps.length + 1) ps.length ts = true) := okAt_made HEX.out (by omega)
        have hsz2 := wantOf_more (ps := ps) HEX.out
        have HWZ : Hid _ := hsz2
        have HOL : Hid _ := hol
        clear hsz2
        go_wp2
        go_roundw
        case rel => exact ⟨ps ++ [ts], ps.length + 1, by omega, by go_num, by simp, by rw [HW.out], okAt_snoc hok.out HOK.out, by rw [HWZ.out, HOL.out]; omega, HP3.out, HB3.out⟩
        case measure => simp [intOf] <;> omega
      · have hne : ((ps.length : Int) == (n : Int)) = false := by simp; omega
        go_wp2_with fail
        rw [HC.out]
        refine (drawn_calls 64 a raw cap (11 * ps.length) _ (by omega) (by omega) hl (HT.out.below HB.out)).mono ?_
        rintro e w1 ⟨hb1, v, ts, out, rfl, hrow, hex, hol⟩
        obtain ⟨ta, tc, rfl⟩ := TokRow.form hrow
        have HROW : Hid (TokRow w1 wr.heap.size (.slice ta ts.length tc) ts) := hrow
        have HEX : Hid (Tok.expand [] ts = some out) := hex
        have htl : ts.length ≤ 64 := by have := Tok.expand_many ts [] out hex; simp at this; omega
        have HP1 : Hid (PR w1 w0.heap.size (.slice la ps.length lc) ps) := PR.below HP.out hb1
        have HB1 : Hid (Below w0.heap.size w0 w1) := HB.out.trans (hb1.mono HB.out.size)
        have hs1 : wr.heap.size ≤ w1.heap.size := hb1.size
        have hs0 : w0.heap.size ≤ wr.heap.size := HB.out.size
        clear hrow hex hb1 HP HB
        go_wp2_with fail
        refine (made_calls ta ts out tc _ (by omega) (TokRow.toks HROW.out) HEX.out).mono ?_
        rintro e w2 ⟨hb2, v2, rfl, hown⟩
        obtain ⟨oa, oc, rfl⟩ := hown.form
        have HOW : Hid (OwnB w2 w1.heap.size (.slice oa out.length oc) out) := hown
        have HROW2 : Hid (TokRow w2 w0.heap.size (.slice ta ts.length tc) ts) := TokRow.below (tokrow_le HROW.out hs0) hb2
        have HP2 : Hid (PR w2 w0.heap.size (.slice la ps.length lc) ps) := PR.below HP1.out hb2
        have HB2 : Hid (Below w0.heap.size w0 w2) := HB1.out.trans (hb2.mono HB1.out.size)
        have hs2 : w1.heap.size ≤ w2.heap.size := hb2.size
        clear hown hb2 HROW HP1 HB1
        obtain ⟨vs, hpo, hpr⟩ := HP2.out.pieces
        have HPO : Hid (w2.ownsRow w0.heap.size 25 1 (.slice la ps.length lc) ps.length vs) := hpo
        have HPR : Hid _ := hpr
        clear hpo hpr
        go_wp2_with (at_builtin; refine wpList_append_own _ rfl _ _ 29 rfl w0.heap.size 25 ip (.slice none 0 0) 1 24 Try.underlying29 hpi hpz0 hpz1 hpz2 rfl (by decide) _ _ _ rfl (HPO.out.alloc _) ⟨w2.heap.size, 0, none⟩ 1 1 [.slice ta ts.length tc] rfl rfl ?p1 ?p2 ?p3 ?p4 ?p5 ?_)
        case p1 => intro j u hj; exact cell_new1 _ _ _ j u hj
        case p2 => first | rfl | (intro u hu; simp at hu; subst hu; rfl)
        case p3 => unfold maxLen; omega
        case p4 => omega
        case p5 => simp; omega
        intro v' w3 hown3 hgrow3 _
        have HP3 : Hid (PR w3 w0.heap.size v' (ps ++ [ts])) := pr_snoc HPO.out HPR.out HROW2.out hown3 hgrow3
        have HO3 : Hid (OwnB w3 w1.heap.size (.slice oa out.length oc) out) := World.ownsRow.kept (HOW.out.alloc _) hgrow3 (own_ne HOW.out HPO.out (by decide))
        have HB3 : Hid (Below w0.heap.size w0 w3) := (HB2.out.alloc (by omega) _).grown hgrow3 (by simp; omega) (fun k hk => (World.ownsRow.lt HPO.out k hk).1)
        have k1 := conv_own HO3.out
        rw [hol] at k1
        have HW : Hid (wantOf (ps ++ [ts]) = wantOf ps ++ ⟨out.toArray⟩) := wantOf_snoc HEX.out
        clear hown3 hgrow3
        have HOK : Hid (okAt (n + 1) ps.length ts = true) := okAt_made HEX.out (by omega)
        have hsz2 := wantOf_more (ps := ps) HEX.out
        have HWZ : Hid _ := hsz2
        have HOL : Hid _ := hol
        clear hsz2
        go_wp2
        go_roundw
        case rel => exact ⟨ps ++ [ts], ps.length + 1, by omega, by go_num, by simp, by rw [HW.out], okAt_snoc hok.out HOK.out, by rw [HWZ.out, HOL.out]; omega, HP3.out, HB3.out⟩
        case measure => simp [intOf] <;> omega
    · have hpe : ps.length = n + 1 := by omega
      obtain ⟨hok2, hs4, hr0, hr1, hr2⟩ := packed_read hn hpe (fun i hi => hok.out i hi)
      have HOK2 : Hid _ := hok2
      have HR0 : Hid _ := hr0
      have HR1 : Hid _ := hr1
      have HR2 : Hid _ := hr2
      have HSL : Hid _ := hs4
      have HPE : Hid (ps.length = n + 1) := hpe
      have hp600 : ps.length ≤ 4 := by omega
      obtain ⟨_, _, hvv, hpm, hpat⟩ := HP.out.at
      simp at hvv
      obtain ⟨rfl, rfl⟩ := hvv
      have HPA : Hid (PiecesAt wr la ps) := hpat
      clear hok2 hr0 hr1 hr2 hs4 hpat hok hpe
      go_wp2_with fail
      refine (pack_calls la ps lc _ hpm HPA.out).mono ?_
      rintro e w1 ⟨hb1, ⟨h, _⟩ | ⟨_, ⟨j, hj, hbad⟩, _⟩ | ⟨_, _, v1, rfl, hown1⟩⟩
      · omega
      · rw [HOK2.out j hj] at hbad; cases hbad
      generalize hS : toBytes (magicBits ++ frames ps ps.length ++ endBits) = S at *
      have HS : Hid (toBytes (magicBits ++ frames ps ps.length ++ endBits) = S) := hS
      have hsl : S.length ≤ 4096 := HSL.out
      obtain ⟨sa, sc, rfl, hsa, _⟩ := BytesAt.own hown1
      have HSA1 : Hid (BytesAt w1 sa S) := hsa
      have HO1 : Hid (OwnB w1 wr.heap.size (.slice sa S.length sc) S) := hown1
      have HPA1 : Hid (PiecesAt w1 la ps) := HPA.out.below hb1
      have HB1 : Hid (Below w0.heap.size w0 w1) := HB.out.trans (hb1.mono HB.out.size)
      clear hS hb1 hown1 hsa HPA HB
      go_wp2_with fail
      refine (HU.out sa S sc _ (by omega) HSA1.out).mono ?_
      rintro e w2 ⟨hb2, ma, ps', mc, rfl, hat2, hpl2, hok2, _⟩
      have hpp : ps' = ps := (hok2 HR0.out).trans HR1.out
      subst hpp
      rw [HR0.out]
      have HSA2 : Hid (BytesAt w2 sa S) := HSA1.out.below hb2
      have HO2 : Hid (OwnB w2 wr.heap.size (.slice sa S.length sc) S) := OwnB.below HO1.out hb2
      have HPA2 : Hid (PiecesAt w2 la ps') := HPA1.out.below hb2
      have HPM2 : Hid (PiecesAt w2 ma ps') := hat2
      have HB2 : Hid (Below w0.heap.size w0 w2) := HB1.out.trans (hb2.mono HB1.out.size)
      clear hb2 hat2 hok2 HSA1 HO1 HPA1 HB1
      go_wp2_with fail
      refine (HD.out sa S sc _ (by omega) HSA2.out).mono ?_
      rintro e w3 ⟨hb3, v3, out3, rfl, hown3, hok3, _⟩
      have hoo : out3 = ps'.flatMap made := (hok3 HR0.out).trans HR2.out
      have HWN : Hid (wantOf ps' = ⟨out3.toArray⟩) := by show _ = _; unfold wantOf; rw [hoo]
      clear hoo
      rw [HR0.out]
      obtain ⟨ya, yc, rfl⟩ := hown3.form
      have HY3 : Hid (OwnB w3 w2.heap.size (.slice ya out3.length yc) out3) := hown3
      have HO3 : Hid (OwnB w3 wr.heap.size (.slice sa S.length sc) S) := OwnB.below HO2.out hb3
      have HPA3 : Hid (PiecesAt w3 la ps') := HPA2.out.below hb3
      have HPM3 : Hid (PiecesAt w3 ma ps') := HPM2.out.below hb3
      have HB3 : Hid (Below w0.heap.size w0 w3) := HB2.out.trans (hb3.mono HB2.out.size)
      clear hb3 hown3 hok3 HSA2 HO2 HPA2 HPM2 HB2
      go_wp2_with fail
      refine (pack_calls ma ps' mc _ hpm HPM3.out).mono ?_
      rintro e w4 ⟨hb4, ⟨h, _⟩ | ⟨_, ⟨j, hj, hbad⟩, _⟩ | ⟨_, _, v4, rfl, hown4⟩⟩
      · omega
      · rw [HOK2.out j hj] at hbad; cases hbad
      rw [HS.out] at hown4
      obtain ⟨ta, tc, rfl⟩ := hown4.form
      have HT4 : Hid (OwnB w4 w3.heap.size (.slice ta S.length tc) S) := hown4
      have HY4 : Hid (OwnB w4 w2.heap.size (.slice ya out3.length yc) out3) := OwnB.below HY3.out hb4
      have HO4 : Hid (OwnB w4 wr.heap.size (.slice sa S.length sc) S) := OwnB.below HO3.out hb4
      have HPA4 : Hid (PiecesAt w4 la ps') := HPA3.out.below hb4
      have HPM4 : Hid (PiecesAt w4 ma ps') := HPM3.out.below hb4
      have HB4 : Hid (Below w0.heap.size w0 w4) := HB3.out.trans (hb4.mono HB3.out.size)
      clear hb4 hown4 HO3 HPA3 HPM3 HB3 HY3
      have k1 := conv_own HT4.out
      have k2 := conv_own HY4.out
      have k3 := conv_own HO4.out
      rw [HWN.out]
      go_wp2_with fail
      clear k1 k2 k3 HT4 HY4 HO4
      go_loopw [23] (fun i wz => ∃ (k : Nat), k ≤ ps'.length ∧ i = .int .i64 k ∧ ∃ n, wz = w4.drewN n) (fun i _ => ps'.length - (intOf i).toNat)
      case atStart => exact ⟨0, Nat.zero_le _, rfl, 0, rfl⟩
      case round =>
        obtain ⟨k, hk, rfl, nd, rfl⟩ := hrel
        by_cases hlt : k < ps'.length
        · obtain ⟨b, off, ha, hbl, hcell⟩ : ∃ b off, la = some ⟨b, off, none⟩ ∧ b < w4.heap.size ∧ ∀ i, i < ps'.length → ∃ ai ci, w4.cell? ⟨b, off + i, none⟩ = some (.slice ai (ps'.getD i []).length ci) ∧ (ps'.getD i []).length ≤ 9223372036854775807 ∧ ToksAt w4 ai (ps'.getD i []) := by
            rcases HPA4.out with h | h
            · rw [h] at hlt; simp at hlt
            · exact h
          obtain ⟨b', off', ha', hbl', hcell'⟩ : ∃ b off, ma = some ⟨b, off, none⟩ ∧ b < w4.heap.size ∧ ∀ i, i < ps'.length → ∃ ai ci, w4.cell? ⟨b, off + i, none⟩ = some (.slice ai (ps'.getD i []).length ci) ∧ (ps'.getD i []).length ≤ 9223372036854775807 ∧ ToksAt w4 ai (ps'.getD i []) := by
            rcases HPM4.out with h | h
            · rw [h] at hlt; simp at hlt
            · exact h
          subst ha ha'
          obtain ⟨ai, ci, c0, hl0, htk⟩ := hcell k hlt
          obtain ⟨ai', ci', c0', _, htk'⟩ := hcell' k hlt
          clear hcell hcell'
          generalize ps'.getD k [] = ts at *
          have d0 : (w4.drewN nd).cell? ⟨b, off + k, none⟩ = some (.slice ai ts.length ci) := c0
          have d0' : (w4.drewN nd).cell? ⟨b', off' + k, none⟩ = some (.slice ai' ts.length ci') := c0'
          have HTK : Hid (ToksAt (w4.drewN nd) ai ts) := htk.drewN _
          have HTK' : Hid (ToksAt (w4.drewN nd) ai' ts) := htk'.drewN _
          have hix : 0 ≤ (k : Int) ∧ (k : Int) < (ps'.length : Int) := by omega
          clear htk htk' c0 c0'
          generalize hw0 : w4.drewN nd = w5 at *
          have HW0 : Hid (w4.drewN nd = w5) := hw0
          clear hw0
          go_wp2_with fail
          go_quiet ((go_at_call 38; exact Calls.quiet_of (same_calls _ _ ts _ _ _ hl0 (by exact ToksAt.drewN HTK.out _) (by exact ToksAt.drewN HTK'.out _))))
          go_wp2
          go_roundw
          case rel => exact ⟨k + 1, by omega, by go_num, _, by rw [← HW0.out, World.drewN_drewN]⟩
          case measure => simp [intOf]; omega
        · go_wp2
          go_ret
          exact ⟨rfl, below_drewN HB4.out _⟩
end Go.Proofs.Ytnpnaglgllcpfaa
