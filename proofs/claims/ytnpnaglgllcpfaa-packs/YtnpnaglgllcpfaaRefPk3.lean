/-
  What the document's Pack answers of pieces in memory.
-/
import Derived.Test.YtnpnaglgllcpfaaRefPk2
namespace Go.Proofs.Ytnpnaglgllcpfaa
set_option maxRecDepth 100000
open Go.RowKit

theorem toBytes_magic : toBytes magicBits = [80, 90, 49] := by decide
theorem toBytes_end : toBytes endBits = [128] := by decide

theorem cell_128 (w : World) (j : Nat) (hj : j < ([128] : List UInt8).length) : (w.alloc (.cells #[.int .u8 128] 5)).cell? ((⟨w.heap.size, 0, none⟩ : Addr).add j) = some (.int .u8 (([128] : List UInt8).getD j 0).toNat) := by
  have hj0 : j = 0 := by simpa using hj
  subst hj0
  simp [Addr.add]

set_option maxHeartbeats 1000000 in
theorem refPack_calls (a : Option Addr) (ps : List (List Tok)) (cap : Nat) (w : World) (hl : ps.length ≤ 9223372036854775807) (ht : PiecesAt w a ps) :
    Calls Try.prog 45 #[.slice a ps.length cap] w fun e w' => Below w.heap.size w w' ∧ PackAns ps e (OwnB w' w.heap.size) := by
  have HT : Hid (PiecesAt w a ps) := ht
  clear ht
  have kc := fun (w : World) (C : Array Value) (n c : Nat) => Lib.run_convert_bytes_const (P := Try.prog) w 22 5 C n c Try.underlying22 Try.underlying5
  by_cases hlong : 600 < ps.length
  · go_enter Try.func45, Try.ntmps45
    go_wp2
    go_ret2
    exact ⟨Below.refl _ _, .inl ⟨hlong, rfl⟩⟩
  · have hn : ps.length ≤ 600 := by omega
    clear hlong
    go_enter Try.func45, Try.ntmps45
    go_wp2
    go_loopw [4, 5] (fun v i wr => ∃ (k : Nat), k ≤ ps.length ∧ i = .int .i64 k ∧ Hid (∀ j, j < k → okAt ps.length j (ps.getD j []) = true) ∧ Hid (OutB wr w.heap.size v (toBytes (magicBits ++ frames ps k))) ∧ Below w.heap.size w wr) (fun _ i _ => ps.length - (intOf i).toNat)
    case atStart =>
      refine ⟨0, Nat.zero_le _, rfl, fun j hj => by omega, ?_, (Below.refl _ _).alloc (Nat.le_refl _) _⟩
      refine .inr ⟨w.heap.size, rfl, ?_, heap_alloc_new w _⟩
      rw [show magicBits ++ frames ps 0 = magicBits by simp [frames]]
      exact toBytes_magic
    case round =>
      obtain ⟨k, hk, rfl, hok, hout, hb⟩ := hrel
      clear kc
      have hs := hb.size
      have hfs := frames_short ps k hk hok.out
      have hfull : Hid ((magicBits ++ frames ps k).length % 8 = 0) := by show _ = _; rw [List.length_append, magic_length]; have := frames_full ps k; omega
      have hlen : (toBytes (magicBits ++ frames ps k)).length ≤ 160000 := by rw [toBytes_length, List.length_append, magic_length]; omega
      by_cases hlt : k < ps.length
      · obtain ⟨b, off, ha, hbl, hcell⟩ : ∃ b off, a = some ⟨b, off, none⟩ ∧ b < w.heap.size ∧ ∀ i, i < ps.length → ∃ ai ci, w.cell? ⟨b, off + i, none⟩ = some (.slice ai (ps.getD i []).length ci) ∧ (ps.getD i []).length ≤ 9223372036854775807 ∧ ToksAt w ai (ps.getD i []) := by
          rcases HT.out with h | h
          · rw [h] at hlt; simp at hlt
          · exact h
        subst ha
        obtain ⟨ai, ci, c0', hlt2, htk⟩ := hcell k hlt
        have c0 := c0'
        rw [← hb.cell (p := ⟨b, _, none⟩) hbl] at c0
        clear hcell
        have HC0 : Hid (w.cell? ⟨b, off + k, none⟩ = some (.slice ai (ps.getD k []).length ci)) := c0'
        clear c0'
        have HF : Hid (frames ps (k + 1) = frames ps k ++ frameBits (ps.getD k []) (made (ps.getD k []))) := frames_succ ps k hlt
        generalize hps : ps.getD k [] = ts at *
        have HPS : Hid _ := hps
        have HTK : Hid (ToksAt w ai ts) := htk
        clear hps htk
        go_wp2_with fail
        refine (make_calls ai ts ci _ hlt2 (HTK.out.below hb)).mono ?_
        rintro e w2 ⟨hb2, hans⟩
        have hout2 : Hid (OutB w2 w.heap.size u4 (toBytes (magicBits ++ frames ps k))) := OutB.below hout.out hb2
        have hs2 := hb2.size
        have hbb : Below w.heap.size w w2 := hb.trans (hb2.mono hs)
        have hlast : ((k : Int) == (ps.length : Int) - 1) = decide (k + 1 = ps.length) := by rw [Bool.eq_iff_iff]; simp; omega
        have c2 : w2.cell? ⟨b, off + k, none⟩ = some (.slice ai ts.length ci) := by rw [hbb.cell (p := ⟨b, _, none⟩) hbl]; exact HC0.out
        clear c0
        rcases hans with ⟨he, rfl⟩ | ⟨out, v2, he, ho, rfl, hown⟩
        · have HE : Hid (okAt ps.length k (ps.getD k []) = false) := by
            show _ = _
            rw [HPS.out]; unfold okAt; rw [Tok.okB_none he]; rfl
          clear he
          go_wp2
          go_ret2
          exact ⟨hbb, .inr (.inl ⟨hn, ⟨k, hlt, HE.out⟩, rfl⟩)⟩
        · have HOK : Hid (okAt ps.length k (ps.getD k []) = true ↔ out.length = 64 ∨ k + 1 = ps.length ∧ 1 ≤ out.length) := by
            show _ ↔ _
            rw [HPS.out]
            have hm : made ts = out := by simp [made, he]
            unfold okAt
            rw [Tok.okB_some he, hm]
            simp
          have HE : Hid _ := he
          have HM : Hid (made ts = out) := by show _ = _; simp [made, he]
          obtain ⟨pa, pc, rfl, hpa, hpo⟩ := BytesAt.own hown
          have HPA : Hid (BytesAt w2 pa out) := hpa
          have HPO : Hid (∀ b off, pa = some ⟨b, off, none⟩ → b < w2.heap.size) := fun b' off' e => (World.ownsRow.lt hown b' (hpo b' off' e).2).2
          clear he hown hpa hpo
          by_cases hz : out.length = 0
          · have HQ : Hid (okAt ps.length k (ps.getD k []) = false) := by
              show _ = _
              rw [Bool.eq_false_iff]
              intro h
              have := HOK.out.1 h
              omega
            have hz' : ((out.length : Int) == 0) = true := by simpa using hz
            go_wp2
            go_ret2
            exact ⟨hbb, .inr (.inl ⟨hn, ⟨k, hlt, HQ.out⟩, rfl⟩)⟩
          · have hz' : ((out.length : Int) == 0) = false := beq_eq_false_iff_ne.2 (by omega)
            by_cases hbad : ¬ k + 1 = ps.length ∧ out.length < 64
            · have HQ : Hid (okAt ps.length k (ps.getD k []) = false) := by
                show _ = _
                rw [Bool.eq_false_iff]
                intro h
                have := HOK.out.1 h
                omega
              have hd : decide (k + 1 = ps.length) = false := by simpa using hbad.1
              have h64 : out.length < 64 := hbad.2
              clear hbad
              go_wp2
              go_ret2
              exact ⟨hbb, .inr (.inl ⟨hn, ⟨k, hlt, HQ.out⟩, rfl⟩)⟩
            · have hgood : k + 1 = ps.length ∨ 64 ≤ out.length := by
                by_cases hkn : k + 1 = ps.length
                · exact .inl hkn
                · exact .inr (by rcases Nat.lt_or_ge out.length 64 with h | h; exact absurd ⟨hkn, h⟩ hbad; exact h)
              have HQ : Hid (okAt ps.length k (ps.getD k []) = true) := HOK.out.2 (by omega)
              obtain ⟨out', he', hm', ho', hto, hall⟩ := ok_facts (okAt_ok HQ.out)
              rw [HPS.out] at hall hto
              have HALL : Hid (∀ t ∈ ts, Tok.plainB t ∧ Tok.cost t ≤ 31) := hall
              have hto64 : ts.length ≤ 64 := by omega
              clear hall he' hm' ho' hto
              have key : Calls Try.prog 75 #[.slice ai ts.length ci, .slice pa out.length pc] w2 fun e w' => e = .returned (.string (text (frameBits ts out))) ∧ Below w2.heap.size w2 w' :=
                frame_calls ai pa ts out ci pc w2 hto64 ho (HTK.out.below hbb) HPA.out HPO.out HALL.out
              have HKEY : Hid _ := key
              clear key
              have HFB : Hid ((frameBits ts out).length ≤ 2100) := frameBits_short ts out hto64 ho HALL.out
              have HFF : Hid ((frameBits ts out).length % 8 = 0) := frameBits_full ts out
              have HN8 : Hid (8 ≤ (frameBits ts out).length) := by
                show _ ≤ _
                unfold frameBits
                simp only [List.length_append, bin_length]; omega
              have HOKS : Hid (∀ j, j < k + 1 → okAt ps.length j (ps.getD j []) = true) := fun j hj => by
                rcases Nat.lt_or_ge j k with h | h
                · exact hok.out j h
                · have : j = k := by omega
                  subst this; exact HQ.out
              have HTB : Hid (toBytes (magicBits ++ frames ps (k + 1)) = toBytes (magicBits ++ frames ps k) ++ toBytes (frameBits ts out)) := by
                show _ = _
                rw [HF.out, HM.out, ← List.append_assoc, toBytes_append _ _ hfull.out]
              generalize toBytes (magicBits ++ frames ps k) = o at *
              clear hbad
              by_cases hkn : k + 1 = ps.length
              all_goals
                first
                | rw [decide_eq_true hkn] at hlast
                | rw [decide_eq_false hkn] at hlast
                have h64' : 64 ≤ out.length ∨ k + 1 = ps.length := by omega
                clear hgood
                obtain ⟨ao, cp, rfl⟩ := OutB.form hout.out
                first
                | (have h64 : 64 ≤ out.length := h64'.elim id (fun h => absurd h hkn))
                | skip
                clear h64' hkn
                go_wp2_with fail
                refine (Calls.mono HKEY.out ?_)
                rintro e w3 ⟨rfl, hb3⟩
                have hout3 : Hid (OutB w3 w.heap.size (.slice ao o.length cp) o) := OutB.below hout2.out hb3
                have hs3 := hb3.size
                have hbb3 : Below w.heap.size w w3 := hbb.trans (hb3.mono (by omega))
                clear hb3
                go_wp2_with fail
                refine (refBytes_calls (frameBits ts out) _ (by have := HFB.out; omega)).mono ?_
                rintro e w4 ⟨v4, rfl, hown4, hb4⟩
                have hout4 : Hid (OutB w4 w.heap.size (.slice ao o.length cp) o) := OutB.below hout3.out hb4
                have hs4 := hb4.size
                have hbb4 : Below w.heap.size w w4 := hbb3.trans (hb4.mono (by omega))
                have HT4 : Hid (0 < (toBytes (frameBits ts out)).length ∧ (toBytes (frameBits ts out)).length ≤ 300) := by
                  show _ ∧ _
                  rw [toBytes_length]
                  have h1 := HFB.out
                  have h2 := HN8.out
                  omega
                generalize toBytes (frameBits ts out) = nb at *
                obtain ⟨g4, c4, rfl, _, _, hc4⟩ := hown4.at HT4.out.1
                have HC4 : Hid (∀ j, j < nb.length → w4.cell? ((⟨g4, 0, none⟩ : Addr).add j) = some (.int .u8 (nb.getD j 0).toNat)) := fun j hj => by
                  have hadd : (⟨g4, 0, none⟩ : Addr).add j = ⟨g4, j, none⟩ := by unfold Addr.add; split <;> simp_all
                  rw [hadd]; exact hc4 j hj
                clear hb4 hown4 hc4
                go_wp2_with (at_builtin; refine wpList_append_out rfl (.tmp 56) (.tmp 58) rfl w.heap.size _ o nb rfl hout4.out ⟨g4, 0, none⟩ c4 rfl HT4.out.1 HC4.out (by have := HT4.out.2; omega) (by omega) ?_; intro v5 w5 hown5 hb5)
                have hbb5 : Below w.heap.size w w5 := hbb4.trans hb5
                have HO5 : Hid (OutB w5 w.heap.size v5 (toBytes (magicBits ++ frames ps (k + 1)))) := by
                  rw [HTB.out]; exact .inl hown5
                clear hb5 hown5
                go_wp2
                go_roundw
                case rel => exact ⟨k + 1, by omega, by go_num, HOKS, HO5, hbb5⟩
                case measure => simp [intOf]; omega
      · have hke : k = ps.length := by omega
        have HKE : Hid _ := hke
        clear hke
        have HTB : Hid (toBytes (magicBits ++ frames ps k ++ endBits) = toBytes (magicBits ++ frames ps k) ++ [128]) := by
          show _ = _
          rw [toBytes_append _ _ hfull.out, toBytes_end]
        generalize toBytes (magicBits ++ frames ps k) = o at *
        obtain ⟨ao, cp, rfl⟩ := OutB.form hout.out
        go_wp2_with (at_builtin; refine wpList_append_out rfl (.tmp 60) (.tmp 61) rfl w.heap.size _ o [128] rfl (OutB.alloc hout.out _) ⟨wr.heap.size, 0, none⟩ 1 rfl (by decide) (fun j hj => cell_128 wr j hj) (by simp; omega) (by simp; omega) ?_; intro v5 w5 hown5 hb5)
        have hbb5 : Below w.heap.size w w5 := (hb.alloc hs _).trans hb5
        have HO5 : Hid (OwnB w5 w.heap.size v5 (toBytes (magicBits ++ frames ps k ++ endBits))) := by rw [HTB.out]; exact hown5
        clear hown5 hb5
        go_wp2
        go_ret2
        refine ⟨hbb5, .inr (.inr ⟨hn, fun j hj => hok.out j (by rw [HKE.out]; exact hj), v5, rfl, ?_⟩)⟩
        rw [← HKE.out]
        exact HO5.out
end Go.Proofs.Ytnpnaglgllcpfaa
