/-
  The law Back, out of what Compress, Decompress and Unpack answer.
-/
import Derived.Test.YtnpnaglgllcpfabBack0
namespace Go.Proofs.Ytnpnaglgllcpfab
set_option maxRecDepth 100000
open Go.RowKit

/-- The parts, cell by cell. -/
theorem PartsAt.cells {w : World} {v : Value} {B bb off : Nat} {data : List UInt8} {cap n : Nat} (h : PartsAt w v B bb off data cap n) (hn : 0 < n) : ∃ g c, v = .slice (some ⟨g, 0, none⟩) n c ∧ ∀ i, i < n → w.cell? ⟨g, i, none⟩ = some (.slice (some ⟨bb, off + 64 * i, none⟩) (pieceAt data i).length (cap - 64 * i)) := by
  obtain ⟨vs, h, hv⟩ := h
  rcases h.2 with ⟨_, hz⟩ | ⟨g, cp, cur, hv2, hb, hg, _⟩
  · omega
  · subst hv2
    refine ⟨g, cp, rfl, fun i hi => ?_⟩
    have hadd : ∀ j, (⟨g, 0, none⟩ : Addr).add j = ⟨g, j, none⟩ := fun j => by unfold Addr.add; split <;> simp_all
    have k0 := World.ownsRow.cells h (g := g) rfl _ _ (hv i hi)
    rw [hadd] at k0
    exact k0
theorem PartsAt.form {w : World} {v : Value} {B bb off : Nat} {data : List UInt8} {cap n : Nat} (h : PartsAt w v B bb off data cap n) : ∃ a c, v = .slice a n c := by
  obtain ⟨vs, h, _⟩ := h
  exact row_form h
theorem stream_four (f : List UInt8 → List Tok) (data : List UInt8) : 4 ≤ (streamOf f data).length := by
  unfold streamOf
  rw [toBytes_length]
  unfold streamBits
  rw [List.length_append, List.length_append, endBits_length, magic_length]
  omega

set_option maxHeartbeats 2000000 in
theorem backLaw_calls (f : List UInt8 → List Tok) (hf : Chosen f) (hC : CompressSaid f) (hD : DecSaid) (hU : UnpSaid) (s : ByteArray) (w : World) :
    Calls Try.prog 3 #[.string s] w fun e w' => e = .returned (.bool true) ∧ Below w.heap.size w w' := by
  have HF : Hid (Chosen f) := hf
  have HC : Hid (CompressSaid f) := hC
  have HD : Hid DecSaid := hD
  have HU : Hid UnpSaid := hU
  clear hf hC hD hU
  go_enter Try.func3, Try.ntmps3
  go_wp2_with fail
  refine (some_calls s 2048 w (by omega)).mono ?_
  rintro e w1 ⟨hb1, c1, rfl, hc1, hby1⟩
  have HB1 : Hid (Below w.heap.size w w1) := hb1
  have hpl : (firstOf s 2048).length ≤ 2048 := by unfold firstOf; rw [List.length_take]; omega
  generalize firstOf s 2048 = data at *
  have HBY1 : Hid (BytesAt w1 (some ⟨w.heap.size, 0, none⟩) data) := hby1
  clear hb1 hby1
  go_wp2_with fail
  refine (HC.out _ data c1 w1 (by omega) hc1 HBY1.out).mono ?_
  rintro e w2 ⟨hb2, ⟨hlong, _⟩ | ⟨_, v, rfl, hown⟩⟩
  · omega
  have HB2 : Hid (Below w.heap.size w w2) := HB1.out.trans (hb2.mono HB1.out.size)
  have HBY2 : Hid (BytesAt w2 (some ⟨w.heap.size, 0, none⟩) data) := bytesAt_below2 HBY1.out hb2
  have hsm := own_max hown
  obtain ⟨so, sc, rfl⟩ := hown.form
  have HS2 : Hid (BytesAt w2 so (streamOf f data)) := ownB_bytes hown
  obtain ⟨ends, hrd⟩ := stream_read HF.out data hpl
  have HRD : Hid (rRead (streamOf f data) = (0, toksOf f data, data, ends)) := hrd
  have hs4 := stream_four f data
  clear hb2 hown hrd
  generalize streamOf f data = st at *
  go_wp2_with fail
  refine (HD.out so st sc w2 (by omega) HS2.out).mono ?_
  rintro e w3 ⟨hb3, v3, out3, rfl, hown3, hz3, _⟩
  rw [HRD.out] at hz3 ⊢
  have ho3 : out3 = data := hz3 rfl
  subst ho3
  have HB3 : Hid (Below w.heap.size w w3) := HB2.out.trans (hb3.mono HB2.out.size)
  have HBY3 : Hid (BytesAt w3 (some ⟨w.heap.size, 0, none⟩) out3) := bytesAt_below2 HBY2.out hb3
  have HS3 : Hid (BytesAt w3 so st) := bytesAt_below2 HS2.out hb3
  obtain ⟨yo, yc, rfl⟩ := hown3.form
  have HY3 : Hid (BytesAt w3 yo out3) := ownB_bytes hown3
  clear hb3 hown3 hz3
  go_wp2_with fail
  refine (HU.out so st sc w3 (by omega) HS3.out).mono ?_
  rintro e w4 ⟨hb4, pa, ps, pc, rfl, hps, hpm, hz4, _⟩
  rw [HRD.out] at hz4 ⊢
  have ho4 : ps = toksOf f out3 := hz4 rfl
  subst ho4
  have HB4 : Hid (Below w.heap.size w w4) := HB3.out.trans (hb4.mono HB3.out.size)
  have HBY4 : Hid (BytesAt w4 (some ⟨w.heap.size, 0, none⟩) out3) := bytesAt_below2 HBY3.out hb4
  have HY4 : Hid (BytesAt w4 yo out3) := bytesAt_below2 HY3.out hb4
  have HPA4 : Hid (PiecesAt w4 pa (toksOf f out3)) := hps
  rw [toksOf_length]
  have hn1 : 64 * cutN out3 ≤ out3.length + 63 := by unfold cutN; omega
  clear hb4 hps hz4 hpm
  go_wp2_with fail
  refine (cut_calls w.heap.size 0 out3 c1 w4 hpl hc1).mono ?_
  rintro e w5 ⟨hb5, v5, rfl, hparts⟩
  have HB5 : Hid (Below w.heap.size w w5) := HB4.out.trans (hb5.mono HB4.out.size)
  have HBY5 : Hid (BytesAt w5 (some ⟨w.heap.size, 0, none⟩) out3) := bytesAt_below2 HBY4.out hb5
  have HY5 : Hid (BytesAt w5 yo out3) := bytesAt_below2 HY4.out hb5
  have HPA5 : Hid (PiecesAt w5 pa (toksOf f out3)) := HPA4.out.below hb5
  have HPR5 : Hid (PartsAt w5 v5 w4.heap.size w.heap.size 0 out3 c1 (cutN out3)) := hparts
  obtain ⟨qa, qc, rfl⟩ := hparts.form
  have k1 := conv_bytes yc HY5.out
  have k2 := conv_bytes c1 HBY5.out
  have HCN : Hid ((toksOf f out3).length = cutN out3) := toksOf_length _ _
  have hcn33 : cutN out3 ≤ 33 := by unfold cutN; omega
  have hcnz : 0 < cutN out3 → 0 < out3.length := by unfold cutN; omega
  have HNE : Hid (∀ k, k < cutN out3 → 64 * k < out3.length) := fun k hk => by unfold cutN at hk; omega
  clear hb5 hparts
  generalize hNN : cutN out3 = N at *
  have HNN : Hid (cutN out3 = N) := hNN
  clear hNN
  go_wp2_with fail
  clear k1 k2

  go_loopg [11] N (fun g iv wr => ∃ k : Nat, k ≤ N ∧ g = N - k ∧ iv = .int .i64 k ∧ Hid (Below w5.heap.size w5 wr))
  case atStart => exact ⟨0, by omega, rfl, rfl, Below.refl _ _⟩
  case round =>
    obtain ⟨k, hk, hg, rfl, HBW⟩ := hrel
    have HG : Hid _ := hg
    clear hg
    by_cases hlt : k < N
    · have HBYr : Hid (BytesAt wr (some ⟨w.heap.size, 0, none⟩) out3) := bytesAt_below2 HBY5.out HBW.out
      have hz := HNE.out k hlt
      have hcell : ∀ j, j < out3.length → wr.cell? ⟨w.heap.size, 0 + j, none⟩ = some (.int .u8 (out3.getD j 0).toNat) := by
        rcases HBYr.out with h | ⟨b, off, h1, h⟩
        · rw [h] at hz; simp at hz
        · simp at h1
          obtain ⟨rfl, rfl⟩ := h1
          exact h
      have HPT : Hid (BytesAt wr (some ⟨w.heap.size, 0 + 64 * k, none⟩) (pieceAt out3 k)) := BytesAt.part hcell (64 * k) 64
      obtain ⟨g, c, hqa, hqc⟩ := HPR5.out.cells (by omega)
      have hq := cell_kept HBW.out (hqc k hlt)
      obtain ⟨rfl, rfl⟩ : qa = some ⟨g, 0, none⟩ ∧ qc = c := by simpa using hqa
      obtain ⟨pb, po, hpa, hpl2, hpc⟩ : ∃ pb po, pa = some ⟨pb, po, none⟩ ∧ pb < wr.heap.size ∧ ∀ i, i < (toksOf f out3).length → ∃ ai ci, wr.cell? ⟨pb, po + i, none⟩ = some (.slice ai ((toksOf f out3).getD i []).length ci) ∧ ((toksOf f out3).getD i []).length ≤ 9223372036854775807 ∧ ToksAt wr ai ((toksOf f out3).getD i []) := by
        rcases HPA5.out.below HBW.out with h | h
        · exfalso
          have h1 := HCN.out
          rw [h] at h1
          simp at h1
          omega
        · exact h
      subst hpa
      obtain ⟨ai, ci, p1, p2, p3⟩ := hpc k (by rw [HCN.out]; exact hlt)
      rw [toksOf_getD f out3 k (by rw [HNN.out]; exact hlt)] at p1 p2 p3
      have hplk : (pieceAt out3 k).length ≤ 64 := by rw [pieceAt_length]; omega
      have HEX : Hid (Tok.expand [] (f (pieceAt out3 k)) = some (pieceAt out3 k)) := (chosen_made HF.out _ hplk).1
      have HTK : Hid (ToksAt wr ai (f (pieceAt out3 k))) := p3
      clear hcell hpc p3 hqa hqc
      generalize f (pieceAt out3 k) = ts at *
      generalize pieceAt out3 k = p at *
      generalize c1 - 64 * k = cc at *
      generalize 0 + 64 * k = K at *
      go_wp2_with fail
      refine (made_calls ai ts p ci _ p2 HTK.out HEX.out).mono ?_
      rintro e w6 ⟨hb6, v6, rfl, hown6⟩
      have HB6 : Hid (Below w5.heap.size w5 w6) := HBW.out.trans (hb6.mono HBW.out.size)
      have q1 := cell_kept hb6 hq
      have k1 := conv_own hown6
      have k2 := conv_bytes cc (bytesAt_below2 HPT.out hb6)
      have k1' := fun n => conv_own (w := w6.drewN n) hown6
      have k2' := fun n => conv_bytes (w := w6.drewN n) cc (bytesAt_below2 HPT.out (below_drewN hb6 n))
      have hkI : 0 ≤ (k : Int) ∧ (k : Int) < (N : Int) := by omega
      obtain ⟨oa, oc, rfl⟩ := hown6.form
      clear hb6 hown6 hq p1
      go_wp2_with fail
      go_quiet (fail)
      go_wp2
      go_roundg (N - (k + 1))
      case measure => have := HG.out; omega
      case rel => exact ⟨k + 1, by omega, rfl, by go_num, below_drewN HB6.out _⟩
    · have hlt' : ¬ (k : Int) < (N : Int) := by omega
      go_wp2
      go_ret
      exact ⟨rfl, HB5.out.trans (HBW.out.mono HB5.out.size)⟩
end Go.Proofs.Ytnpnaglgllcpfab
