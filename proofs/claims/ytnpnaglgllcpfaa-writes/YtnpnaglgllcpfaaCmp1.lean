/-
  The law Compresses, out of what Parse and Compress answer.
-/
import Derived.Test.YtnpnaglgllcpfaaCmp0
namespace Go.Proofs.Ytnpnaglgllcpfaa
set_option maxRecDepth 100000
open Go.RowKit

theorem compressedLong_calls (a sa : Option Addr) (data : List UInt8) (cap sc : Nat) (w : World) (hd : 2048 < data.length) (hl : data.length ≤ 9223372036854775807) :
    Calls Try.prog 55 #[.slice a data.length cap, .slice sa 0 sc, .int .i64 1] w fun e w' => e = .returned (.bool true) ∧ w' = w := by
  go_enter Try.func55, Try.ntmps55
  go_wp2
  go_ret
  exact ⟨rfl, rfl⟩
set_option maxHeartbeats 2000000 in
theorem compressed_calls (f : List UInt8 → List Tok) (hf : Chosen f) (hP : ParseSaid f) (hC : CompressSaid f) (a : Option Addr) (data : List UInt8) (cap : Nat) (w : World) (hl : data.length ≤ 9223372036854775807) (hcap : data.length ≤ cap) (hb : BytesAt w a data) :
    Calls Try.prog 23 #[.slice a data.length cap] w fun e w' => Below w.heap.size w w' ∧ ∃ v, e = .returned (.tuple #[v, .bool true]) := by
  have HB : Hid (BytesAt w a data) := hb
  have HF : Hid (Chosen f) := hf
  have HP : Hid (ParseSaid f) := hP
  have HC : Hid (CompressSaid f) := hC
  clear hb hf hP hC
  go_enter Try.func23, Try.ntmps23
  go_wp2_with fail
  refine (HC.out a data cap w hl hcap HB.out).mono ?_
  rintro e w1 ⟨hb1, ⟨hlong, ta, tc, rfl⟩ | ⟨hshort, v, rfl, hown⟩⟩
  · have HB1 : Hid (Below w.heap.size w w1) := hb1
    clear hb1
    go_wp2_with ((go_at_call 43; go_in))
    refine (compressedLong_calls a ta data cap tc _ hlong hl).mono ?_
    rintro e w2 ⟨rfl, rfl⟩
    go_wp2
    go_ret2
    exact ⟨HB1.out, _, rfl⟩
  · have HB1 : Hid (Below w.heap.size w w1) := hb1
    have HO1 : Hid (OwnB w1 w.heap.size v (streamOf f data)) := hown
    have hsm := own_max hown
    obtain ⟨so, sc, rfl⟩ := hown.form
    have HS1 : Hid (BytesAt w1 so (streamOf f data)) := ownB_bytes hown
    clear hb1 hown
    go_wp2_with ((go_at_call 43; go_in))
    refine (compressedRef_calls f HF.out a so data cap sc _ hshort hcap (bytesAt_below2 HB.out HB1.out) HS1.out hsm).mono ?_
    rintro e w2 ⟨hb2, rfl⟩
    have HB2 : Hid (Below w.heap.size w w2) := HB1.out.trans (hb2.mono HB1.out.size)
    have HS2 : Hid (BytesAt w2 so (streamOf f data)) := bytesAt_below2 HS1.out hb2
    obtain ⟨ends, hrd⟩ := stream_read HF.out data hshort
    have HRD : Hid _ := hrd
    clear hb2 hrd
    go_wp2_with fail
    refine (read_calls so (streamOf f data) sc w2 hsm HS2.out).mono ?_
    rintro e w3 ⟨hb3, rfl, L, n, vP, vD, vE, ht3, hl3⟩
    rw [HRD.out] at ht3 hl3
    have HB3 : Hid (Below w.heap.size w w3) := HB2.out.trans (hb3.mono HB2.out.size)
    obtain ⟨pa, pc, hvp, hpm, hat⟩ := hl3.at
    subst hvp
    have HAT : Hid (PiecesAt w3 pa (toksOf f data)) := hat
    obtain ⟨⟨d3, d4, d5⟩, _⟩ := ht3.lists
    have hcn : (toksOf f data).length = cutN data := toksOf_length f data
    have hc33 : cutN data ≤ 33 := by unfold cutN; omega
    rw [hcn] at d3
    have HD3 : Hid (w3.cell? ⟨w2.heap.size, 3, none⟩ = some (.slice pa (cutN data) pc)) := d3
    have HCN : Hid ((toksOf f data).length = cutN data) := hcn
    have hn1 : 64 * cutN data ≤ data.length + 63 := by unfold cutN; omega
    have hn2 : data.length ≤ 64 * cutN data := by unfold cutN; omega
    clear hb3 ht3 hl3 hat d3 d4 d5 hpm hcn
    generalize hNN : cutN data = N at *
    have HNN : Hid (cutN data = N) := hNN
    clear hNN
    generalize w2.heap.size = xq at *
    go_wp2_with fail
    go_loopg [8] N (fun g iv wr => ∃ k : Nat, k ≤ N ∧ g = N - k ∧ iv = .int .i64 k ∧ Hid (Below w3.heap.size w3 wr))
    case atStart => exact ⟨0, by omega, rfl, rfl, Below.refl _ _⟩
    case round =>
      obtain ⟨k, hk, hg, rfl, HBW⟩ := hrel
      have HG : Hid _ := hg
      have g3 := cell_kept HBW.out HD3.out
      clear hg
      by_cases hlt : k < N
      · obtain ⟨b, off, ha, hcell⟩ : ∃ b off, a = some ⟨b, off, none⟩ ∧ ∀ j, j < data.length → wr.cell? ⟨b, off + j, none⟩ = some (.int .u8 (data.getD j 0).toNat) := by
          rcases bytesAt_below2 HB.out (HB3.out.trans (HBW.out.mono HB3.out.size)) with h | h
          · exfalso
            rw [h] at hn1
            simp at hn1
            omega
          · exact h
        subst ha
        have HPT : Hid (BytesAt wr (some ⟨b, off + 64 * k, none⟩) (pieceAt data k)) := BytesAt.part hcell (64 * k) 64
        have hpl := pieceAt_length data k
        obtain ⟨pb, po, hpa, hpl2, hpc⟩ : ∃ pb po, pa = some ⟨pb, po, none⟩ ∧ pb < wr.heap.size ∧ ∀ i, i < (toksOf f data).length → ∃ ai ci, wr.cell? ⟨pb, po + i, none⟩ = some (.slice ai ((toksOf f data).getD i []).length ci) ∧ ((toksOf f data).getD i []).length ≤ 9223372036854775807 ∧ ToksAt wr ai ((toksOf f data).getD i []) := by
          rcases HAT.out.below HBW.out with h | h
          · exfalso
            have h1 := HCN.out
            rw [h] at h1
            simp at h1
            omega
          · exact h
        subst hpa
        obtain ⟨ai, ci, p1, p2, p3⟩ := hpc k (by rw [HCN.out]; exact hlt)
        rw [toksOf_getD f data k (by rw [HNN.out]; exact hlt)] at p1 p2 p3
        have HTK : Hid (ToksAt wr ai (f (pieceAt data k))) := p3
        clear hcell hpc p3
        by_cases hto : data.length < 64 * (k + 1)
        · have hto' : (data.length : Int) < ((k : Int) + 1) * 64 := by omega
          obtain ⟨K, hK⟩ : ∃ K : Nat, K = 64 * k := ⟨_, rfl⟩
          have hTK : (pieceAt data k).length = data.length - K := by omega
          have hple := piece_le data k
          have HPAR : Hid (∀ W, Below wr.heap.size wr W → Calls Try.prog 48 #[.slice (some ⟨b, off + K, none⟩) (data.length - K) (cap - K)] W fun e w' => Below W.heap.size W w' ∧ ∃ v, e = .returned (.tuple #[v, .int .i64 0]) ∧ TokRow w' W.heap.size v (f (pieceAt data k))) := fun W hW => by
            have h := HP.out (some ⟨b, off + K, none⟩) (pieceAt data k) (cap - K) W (by omega) (bytesAt_below2 (by rw [hK]; exact HPT.out) hW)
            rw [hTK] at h
            exact h.mono fun e w' hh => ⟨hh.1, by rcases hh.2 with h2 | h2; omega; exact h2.2⟩
          have hkK : IntKind.i64.wrap ((k : Int) * 64) = (K : Int) := by rw [wrapEq _ (by omega)]; omega
          have hkK2 : (k : Int) * 64 = (K : Int) := by omega
          have hb1 : (0 : Int) ≤ (K : Int) ∧ (K : Int) ≤ (data.length : Int) ∧ (data.length : Int) ≤ (cap : Int) := by omega
          have hb2 : ¬ (cap : Int) < (data.length : Int) := by omega
          have hb3 : ¬ (data.length : Int) < (K : Int) := by omega
          have hcK : ¬ cap = K := by omega
          have hkI : 0 ≤ (k : Int) ∧ (k : Int) < (N : Int) := by omega
          clear hK hTK
          go_wp2_with fail
          refine (HPAR.out wr (Below.refl _ _)).mono ?_
          rintro e w5 ⟨hb5, v, rfl, hrow⟩
          have HB5 : Hid (Below w3.heap.size w3 w5) := HBW.out.trans (hb5.mono HBW.out.size)
          have q3 := cell_kept hb5 g3
          have q1 := cell_kept hb5 p1
          have HTK5 : Hid (ToksAt w5 ai (f (pieceAt data k))) := HTK.out.below hb5
          obtain ⟨to, tc, rfl⟩ := hrow.form
          have HTS5 : Hid (ToksAt w5 to (f (pieceAt data k))) := TokRow.toks hrow
          clear hb5 hrow g3 p1
          generalize f (pieceAt data k) = ts at *
          go_wp2_with fail
          refine (sameTokens_calls to ai ts tc ci _ p2 HTS5.out HTK5.out).mono ?_
          rintro e w6 ⟨rfl, nd, rfl⟩
          have HB6 : Hid (Below w3.heap.size w3 (w5.drewN nd)) := below_drewN HB5.out nd
          clear q3 q1
          generalize w5.drewN nd = w6 at *
          go_wp2_with ((go_at_call 43; go_in))
          go_roundg (N - (k + 1))
          case measure => have := HG.out; omega
          case rel => exact ⟨k + 1, by omega, rfl, by go_num, HB6⟩
        · have hto' : ¬ (data.length : Int) < ((k : Int) + 1) * 64 := by omega
          obtain ⟨T, hT⟩ : ∃ T : Nat, T = 64 * (k + 1) := ⟨_, rfl⟩
          obtain ⟨K, hK⟩ : ∃ K : Nat, K = 64 * k := ⟨_, rfl⟩
          have hTK : (pieceAt data k).length = T - K := by omega
          have hple := piece_le data k
          have HPAR : Hid (∀ W, Below wr.heap.size wr W → Calls Try.prog 48 #[.slice (some ⟨b, off + K, none⟩) (T - K) (cap - K)] W fun e w' => Below W.heap.size W w' ∧ ∃ v, e = .returned (.tuple #[v, .int .i64 0]) ∧ TokRow w' W.heap.size v (f (pieceAt data k))) := fun W hW => by
            have h := HP.out (some ⟨b, off + K, none⟩) (pieceAt data k) (cap - K) W (by omega) (bytesAt_below2 (by rw [hK]; exact HPT.out) hW)
            rw [hTK] at h
            exact h.mono fun e w' hh => ⟨hh.1, by rcases hh.2 with h2 | h2; omega; exact h2.2⟩
          have hkK : IntKind.i64.wrap ((k : Int) * 64) = (K : Int) := by rw [wrapEq _ (by omega)]; omega
          have hkK2 : (k : Int) * 64 = (K : Int) := by omega
          have hb1 : (0 : Int) ≤ (K : Int) ∧ (K : Int) ≤ (T : Int) ∧ (T : Int) ≤ (cap : Int) := by omega
          have hb2 : ¬ (cap : Int) < (T : Int) := by omega
          have hb3 : ¬ (T : Int) < (K : Int) := by omega
          have hcK : ¬ cap = K := by omega
          have hkI : 0 ≤ (k : Int) ∧ (k : Int) < (N : Int) := by omega
          have HTE : Hid ((k + 1) * 64 = T) := by show _ = _; omega
          clear hT hK hTK
          go_wp2_with fail
          rw [HTE.out]
          refine (HPAR.out wr (Below.refl _ _)).mono ?_
          rintro e w5 ⟨hb5, v, rfl, hrow⟩
          have HB5 : Hid (Below w3.heap.size w3 w5) := HBW.out.trans (hb5.mono HBW.out.size)
          have q3 := cell_kept hb5 g3
          have q1 := cell_kept hb5 p1
          have HTK5 : Hid (ToksAt w5 ai (f (pieceAt data k))) := HTK.out.below hb5
          obtain ⟨to, tc, rfl⟩ := hrow.form
          have HTS5 : Hid (ToksAt w5 to (f (pieceAt data k))) := TokRow.toks hrow
          clear hb5 hrow g3 p1
          generalize f (pieceAt data k) = ts at *
          go_wp2_with fail
          refine (sameTokens_calls to ai ts tc ci _ p2 HTS5.out HTK5.out).mono ?_
          rintro e w6 ⟨rfl, nd, rfl⟩
          have HB6 : Hid (Below w3.heap.size w3 (w5.drewN nd)) := below_drewN HB5.out nd
          clear q3 q1
          generalize w5.drewN nd = w6 at *
          go_wp2_with ((go_at_call 43; go_in))
          go_roundg (N - (k + 1))
          case measure => have := HG.out; omega
          case rel => exact ⟨k + 1, by omega, rfl, by go_num, HB6⟩
      · have hlt' : ¬ (k : Int) < (N : Int) := by omega
        go_wp2
        go_ret2
        exact ⟨HB3.out.trans (HBW.out.mono HB3.out.size), _, rfl⟩
theorem compressesLaw_calls (f : List UInt8 → List Tok) (hf : Chosen f) (hP : ParseSaid f) (hC : CompressSaid f) (s : ByteArray) (hs : s.size ≤ 9223372036854775807) (w : World) :
    Calls Try.prog 10 #[.string s] w fun e w' => e = .returned (.bool true) ∧ Below w.heap.size w w' := by
  have hconv := fun wx => run_bytes_of_string (P := Try.prog) wx 9 22 5 s Try.underlying9 Try.underlying22 Try.underlying5
  have HP : Hid (ParseSaid f) := hP
  have HF : Hid (Chosen f) := hf
  have HC : Hid (CompressSaid f) := hC
  have HL : Hid (s.data.toList.length = s.size) := rfl
  clear hP hf hC
  go_enter Try.func10, Try.ntmps10
  go_wp2_with fail
  have h1 := compressed_calls f HF.out HP.out HC.out (some ⟨w.heap.size, 0, none⟩) s.data.toList (grownCap w s.size 0 5) _ (by rw [HL.out]; exact hs) (by rw [HL.out]; exact grownCap_ge _ _ _ _) (BytesAt.new s w (grownCap w s.size 0 5) ((bytesRow s (grownCap w s.size 0 5)).size, (bytesRow s (grownCap w s.size 0 5)).size + 1))
  rw [HL.out] at h1
  refine (Calls.mono h1 ?_)
  rintro e w1 ⟨hb1, v1, rfl⟩
  have HB1 : Hid (Below w.heap.size w w1) := (((Below.refl _ _).alloc (Nat.le_refl _) _).drew).trans (hb1.mono (by show w.heap.size ≤ (w.alloc _).heap.size; simp))
  clear h1 hb1
  go_wp2
  go_ret
  exact ⟨rfl, HB1.out⟩
end Go.Proofs.Ytnpnaglgllcpfaa
