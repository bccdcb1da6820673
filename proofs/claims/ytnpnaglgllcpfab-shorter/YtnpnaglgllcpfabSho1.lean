/-
  The law Shorter, out of what Compress and Decompress answer.
-/
import Derived.Test.YtnpnaglgllcpfabSho0
import Derived.Test.YtnpnaglgllcpfabBack1
import Derived.Test.YtnpnaglgllcpfabAgain0
namespace Go.Proofs.Ytnpnaglgllcpfab
set_option maxRecDepth 100000
open Go.RowKit

set_option maxHeartbeats 2000000 in
theorem shorterLaw_calls (f : List UInt8 → List Tok) (hf : Chosen f) (hC : CompressSaid f) (hD : DecSaid) (s : ByteArray) (ra : Option Addr) (raw : List Int) (rc : Nat) (w : World) (hrl : raw.length ≤ 9223372036854775807) (hr : RawAt w ra raw) :
    Calls Try.prog 5 #[.string s, .slice ra raw.length rc] w fun e w' => e = .returned (.bool true) ∧ Below w.heap.size w w' := by
  have HF : Hid (Chosen f) := hf
  have HC : Hid (CompressSaid f) := hC
  have HD : Hid DecSaid := hD
  have HR : Hid (RawAt w ra raw) := hr
  clear hf hC hD hr
  obtain ⟨ip, hpi, hpz0, hpz1, hpz2⟩ := info_parts infoToks
  go_enter Try.func5, Try.ntmps5
  go_wp2_with fail
  refine (some_calls s 2048 w (by omega)).mono ?_
  rintro e w1 ⟨hb1, c1, rfl, hc1, hby1⟩
  have HB1 : Hid (Below w.heap.size w w1) := hb1
  have hpl : (firstOf s 2048).length ≤ 2048 := by unfold firstOf; rw [List.length_take]; omega
  generalize firstOf s 2048 = data at *
  have HBY1 : Hid (BytesAt w1 (some ⟨w.heap.size, 0, none⟩) data) := hby1
  clear hb1 hby1
  go_wp2_with fail
  refine (cut_calls w.heap.size 0 data c1 w1 hpl hc1).mono ?_
  rintro e w2 ⟨hb2, v2, rfl, hparts⟩
  have HB2 : Hid (Below w.heap.size w w2) := HB1.out.trans (hb2.mono HB1.out.size)
  have HBY2 : Hid (BytesAt w2 (some ⟨w.heap.size, 0, none⟩) data) := bytesAt_below2 HBY1.out hb2
  have HPR2 : Hid (PartsAt w2 v2 w1.heap.size w.heap.size 0 data c1 (cutN data)) := hparts
  obtain ⟨qa, qc, rfl⟩ := hparts.form
  have hcn33 : cutN data ≤ 32 := by unfold cutN; omega
  have HNE : Hid (∀ k, k < cutN data → 64 * k < data.length) := fun k hk => by unfold cutN at hk; omega
  have HRR2 : Hid (RawAt w2 ra raw) := HR.out.below HB2.out
  clear hb2 hparts
  generalize hNN : cutN data = N at *
  have HNN : Hid (cutN data = N) := hNN
  clear hNN
  go_wp2_with fail
  go_loopg [7, 8] N (fun g v iv wr => ∃ (k : Nat) (ps : List (List Tok)), k ≤ N ∧ g = N - k ∧ iv = .int .i64 k ∧ ps.length = k ∧ Hid (Rivals data ps k) ∧ Hid (PR wr w2.heap.size v ps) ∧ Hid (Below w2.heap.size w2 wr))
  case atStart => exact ⟨0, [], by omega, rfl, rfl, rfl, Rivals.nil _, PR.nil _ _, Below.refl _ _⟩
  case round =>
    obtain ⟨k, ps, hk, hg, rfl, hpk, HRV, HP, HBW⟩ := hrel
    have HG : Hid _ := hg
    have HPK : Hid (ps.length = k) := hpk
    obtain ⟨la, lc, hvl, _, _⟩ := HP.out.at
    subst hvl
    rw [hpk] at HP
    rw [hpk]
    clear hg hpk
    by_cases hlt : k < N
    · have HBYr : Hid (BytesAt wr (some ⟨w.heap.size, 0, none⟩) data) := bytesAt_below2 HBY2.out HBW.out
      have hz := HNE.out k hlt
      have hcell : ∀ j, j < data.length → wr.cell? ⟨w.heap.size, 0 + j, none⟩ = some (.int .u8 (data.getD j 0).toNat) := by
        rcases HBYr.out with h | ⟨b, off, h1, h⟩
        · rw [h] at hz; simp at hz
        · simp at h1
          obtain ⟨rfl, rfl⟩ := h1
          exact h
      have HPT : Hid (BytesAt wr (some ⟨w.heap.size, 0 + 64 * k, none⟩) (pieceAt data k)) := BytesAt.part hcell (64 * k) 64
      obtain ⟨g, c, hqa, hqc⟩ := HPR2.out.cells (by omega)
      have hq := cell_kept HBW.out (hqc k hlt)
      obtain ⟨rfl, rfl⟩ : qa = some ⟨g, 0, none⟩ ∧ qc = c := by simpa using hqa
      have hplk : (pieceAt data k).length ≤ 64 := piece_le data k
      have HRV2 : Hid (∀ ts, Tok.expand [] ts = some (pieceAt data k) → Rivals data (ps ++ [ts]) (k + 1)) := fun ts h => HRV.out.snoc h
      have HRr : Hid (RawAt wr ra raw) := HRR2.out.below HBW.out
      have HC7 : Hid ((7 : Int) * (k : Int) = ((7 * k : Nat) : Int)) := by show _ = _; omega
      have hsw := HBW.out.size
      clear hcell hqa hqc
      generalize pieceAt data k = p at *
      generalize c1 - 64 * k = cc at *
      generalize 0 + 64 * k = K at *
      go_wp2_with fail
      rw [HC7.out]
      refine (rival_calls _ ra p raw cc rc (7 * k) _ hplk HPT.out HRr.out hrl (by omega)).mono ?_
      rintro e w3 ⟨hb3, v3, ts, rfl, hrow3, hex3⟩
      have HB3 : Hid (Below w2.heap.size w2 w3) := HBW.out.trans (hb3.mono HBW.out.size)
      have HP3 : Hid (PR w3 w2.heap.size (.slice la k lc) ps) := PR.below HP.out hb3
      have htl : ts.length ≤ 64 := by have := Tok.expand_many ts [] p hex3; simp at this; omega
      have HR3 : Hid (Rivals data (ps ++ [ts]) (k + 1)) := HRV2.out ts hex3
      obtain ⟨ta, tc, rfl⟩ := hrow3.form
      have HROW : Hid (TokRow w3 w2.heap.size (.slice ta ts.length tc) ts) := tokrow_le hrow3 hsw
      have hs3 := HB3.out.size
      obtain ⟨vs, hpo, hpr⟩ := HP3.out.pieces
      rw [HPK.out] at hpo
      have HPO : Hid (w3.ownsRow w2.heap.size 34 1 (.slice la k lc) k vs) := hpo
      have HPR : Hid _ := hpr
      clear hpo hpr hb3 hrow3 hex3 HP hq
      go_wp2_with (at_builtin; refine wpList_append_own _ rfl _ _ 27 rfl w2.heap.size 34 ip (.slice none 0 0) 1 24 Try.underlying27 hpi hpz0 hpz1 hpz2 rfl (by decide) _ _ _ rfl (HPO.out.alloc _) ⟨w3.heap.size, 0, none⟩ 1 1 [.slice ta ts.length tc] rfl rfl ?p1 ?p2 ?p3 ?p4 ?p5 ?_)
      try (case p1 => intro j u hj; exact cell_new1 _ _ _ j u hj)
      case p2 => first | rfl | (intro u hu; simp at hu; subst hu; rfl)
      case p3 => unfold maxLen; omega
      case p4 => omega
      case p5 => first | omega | (simp; omega)
      intro v' w4 hown4 hgrow4 _
      have HP4 : Hid (PR w4 w2.heap.size v' (ps ++ [ts])) := pr_snoc (by rw [HPK.out]; exact HPO.out) HPR.out HROW.out (by rw [HPK.out]; exact hown4) hgrow4
      have HB4 : Hid (Below w2.heap.size w2 w4) := (HB3.out.alloc (by omega) _).grown hgrow4 (by simp; omega) (fun k hk => (World.ownsRow.lt HPO.out k hk).1)
      clear hown4 hgrow4
      go_wp2
      go_roundg (N - (k + 1))
      case measure => have := HG.out; omega
      case rel => exact ⟨k + 1, ps ++ [ts], by omega, rfl, by go_num, by simp [HPK.out], HR3, HP4, HB4⟩
    · have hkN : k = N := by omega
      subst hkN
      have hlt' : ¬ (k : Int) < (k : Int) := by omega
      have HRV' : Hid (Rivals data ps (cutN data)) := by show Rivals _ _ _; rw [HNN.out]; exact HRV.out
      obtain ⟨hr0, hr1, hr2, hr3⟩ := HRV'.out.read HF.out hpl
      have HR0 : Hid _ := hr0
      have HR1 : Hid _ := hr1
      have HR2 : Hid _ := hr2
      have HR3 : Hid _ := hr3
      have HOK : Hid _ := HRV'.out.ok
      have HB3 : Hid (Below w.heap.size w wr) := HB2.out.trans (HBW.out.mono HB2.out.size)
      have HBY3 : Hid (BytesAt wr (some ⟨w.heap.size, 0, none⟩) data) := bytesAt_below2 HBY2.out HBW.out
      obtain ⟨_, _, hvv, hpm, hpat⟩ := HP.out.at
      rw [HPK.out] at hvv
      simp at hvv
      obtain ⟨rfl, rfl⟩ := hvv
      have HPA : Hid (PiecesAt wr la ps) := hpat
      have hp32 : ps.length ≤ 32 := by rw [HPK.out]; omega
      have HPK2 : Hid _ := pack_calls la ps lc wr hpm hpat
      clear hr0 hr1 hr2 hr3 hpat HP HRV HRV' HBW
      rw [HPK.out] at HPK2
      go_wp2_with fail
      refine (Calls.mono HPK2.out ?_)
      rintro e w4 ⟨hb4, ⟨h, _⟩ | ⟨_, ⟨j, hj, hbad⟩, _⟩ | ⟨_, _, v4, rfl, hown4⟩⟩
      · omega
      · rw [HOK.out j hj] at hbad; cases hbad
      generalize hS : toBytes (magicBits ++ frames ps ps.length ++ endBits) = S at *
      clear hS
      have hsl : S.length ≤ 4096 := HR3.out
      obtain ⟨sa, sc, rfl, hsa, _⟩ := BytesAt.own hown4
      have HSA : Hid (BytesAt w4 sa S) := hsa
      have HB4 : Hid (Below w.heap.size w w4) := HB3.out.trans (hb4.mono HB3.out.size)
      have HBY4 : Hid (BytesAt w4 (some ⟨w.heap.size, 0, none⟩) data) := bytesAt_below2 HBY3.out hb4
      clear hb4 hown4 hsa HPK2 HPA
      go_wp2_with fail
      refine (HD.out sa S sc _ (by omega) HSA.out).mono ?_
      rintro e w5 ⟨hb5, v5, out5, rfl, hown5, hok5, _⟩
      have hoo : out5 = data := (hok5 HR0.out).trans HR1.out
      subst hoo
      rw [HR0.out]
      obtain ⟨ya, yc, rfl⟩ := hown5.form
      have HY5 : Hid (BytesAt w5 ya out5) := ownB_bytes hown5
      have HB5 : Hid (Below w.heap.size w w5) := HB4.out.trans (hb5.mono HB4.out.size)
      have HBY5 : Hid (BytesAt w5 (some ⟨w.heap.size, 0, none⟩) out5) := bytesAt_below2 HBY4.out hb5
      clear hb5 hown5 hok5
      go_wp2_with fail
      refine (HC.out _ out5 c1 w5 (by omega) hc1 HBY5.out).mono ?_
      rintro e w6 ⟨hb6, ⟨hlong, _⟩ | ⟨_, v, rfl, hown⟩⟩
      · omega
      obtain ⟨ends, hrd⟩ := stream_read HF.out out5 hpl
      have HRD : Hid (rRead (streamOf f out5) = (0, toksOf f out5, out5, ends)) := hrd
      have hst : (streamOf f out5).length ≤ S.length := HR2.out
      have HB6 : Hid (Below w.heap.size w w6) := HB5.out.trans (hb6.mono HB5.out.size)
      have HBY6 : Hid (BytesAt w6 (some ⟨w.heap.size, 0, none⟩) out5) := bytesAt_below2 HBY5.out hb6
      have HY6 : Hid (BytesAt w6 ya out5) := bytesAt_below2 HY5.out hb6
      obtain ⟨so, tc, rfl⟩ := hown.form
      have HS6 : Hid (BytesAt w6 so (streamOf f out5)) := ownB_bytes hown
      clear hb6 hown hrd
      generalize streamOf f out5 = st at *
      go_wp2_with fail
      refine (HD.out so st tc _ (by omega) HS6.out).mono ?_
      rintro e w7 ⟨hb7, v7, out7, rfl, hown7, hok7, _⟩
      rw [HRD.out] at hok7 ⊢
      have hoo : out7 = out5 := hok7 rfl
      subst hoo
      obtain ⟨za, zc, rfl⟩ := hown7.form
      have HB7 : Hid (Below w.heap.size w w7) := HB6.out.trans (hb7.mono HB6.out.size)
      have hby := bytesAt_below2 HBY6.out hb7
      have hy := bytesAt_below2 HY6.out hb7
      have hz := ownB_bytes hown7
      have k1 := conv_bytes c1 hby
      have k2 := conv_bytes yc hy
      have k3 := conv_bytes zc hz
      clear hb7 hown7 hok7 hby hy hz
      go_wp2
      go_ret
      exact ⟨rfl, HB7.out⟩
end Go.Proofs.Ytnpnaglgllcpfab
