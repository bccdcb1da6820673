/-
  A stream of data, each frame's cost the least: pressref.Compressed.
-/
import Derived.Test.YtnpnaglgllcpfaaParses0
namespace Go.Proofs.Ytnpnaglgllcpfaa
set_option maxRecDepth 100000
open Go.RowKit

set_option maxHeartbeats 1000000 in
theorem compressedRef_calls (f : List UInt8 → List Tok) (hf : Chosen f) (a sa : Option Addr) (data : List UInt8) (cap sc : Nat) (w : World) (hd : data.length ≤ 2048) (hcap : data.length ≤ cap) (hb : BytesAt w a data) (hs : BytesAt w sa (streamOf f data)) (hsl : (streamOf f data).length ≤ 9223372036854775807) :
    Calls Try.prog 55 #[.slice a data.length cap, .slice sa (streamOf f data).length sc, .int .i64 0] w fun e w' => Below w.heap.size w w' ∧ e = .returned (.bool true) := by
  have HB : Hid (BytesAt w a data) := hb
  have HS : Hid (BytesAt w sa (streamOf f data)) := hs
  have HF : Hid (Chosen f) := hf
  obtain ⟨ends, hrd⟩ := stream_read hf data hd
  have HRD : Hid _ := hrd
  clear hb hs hf hrd
  go_enter Try.func55, Try.ntmps55
  go_wp2_with fail
  refine (read_calls sa (streamOf f data) sc w hsl HS.out).mono ?_
  rintro e w1 ⟨hb1, rfl, L, n, vP, vD, vE, ht1, hl1⟩
  rw [HRD.out] at ht1 hl1
  have HB1 : Hid (Below w.heap.size w w1) := hb1
  have hs1 := hb1.size
  have k1 := conv_own hl1.data
  have k2 := conv_bytes cap (bytesAt_below2 HB.out hb1)
  have k1' := fun n => conv_own (w := w1.drewN n) hl1.data
  have k2' := fun n => conv_bytes (w := w1.drewN n) cap (bytesAt_below2 HB.out (below_drewN hb1 n))
  have HLS : Hid (Lists w1 (w.heap.size + 1) (toksOf f data) data ends vP vD vE) := hl1
  obtain ⟨da, dc, rfl⟩ := hl1.data.form
  obtain ⟨pa, pc, hvp, hpm, hat⟩ := hl1.at
  subst hvp
  have HAT : Hid (PiecesAt w1 pa (toksOf f data)) := hat
  obtain ⟨⟨c0, c1, c2⟩, f1, f2⟩ := ht1.cell
  obtain ⟨⟨d3, d4, d5⟩, _⟩ := ht1.lists
  have hcn : (toksOf f data).length = cutN data := toksOf_length f data
  have hc33 : cutN data ≤ 33 := by unfold cutN; omega
  rw [hcn] at d3
  have HT1 : Hid _ := ht1
  clear hb1 ht1 hl1 hat c0 c1 f1 f2 d5 hpm
  have HD3 : Hid (w1.cell? ⟨w.heap.size, 3, none⟩ = some (.slice pa (cutN data) pc)) := d3
  have HCN : Hid ((toksOf f data).length = cutN data) := hcn
  have HN64 : Hid (cutN data = (data.length + 63) / 64) := rfl
  have hn1 : 64 * cutN data ≤ data.length + 63 := by unfold cutN; omega
  have hn2 : data.length ≤ 64 * cutN data := by unfold cutN; omega
  clear hcn
  generalize hNN : cutN data = N at *
  have HNN : Hid (cutN data = N) := hNN
  clear hNN
  go_wp2_with fail
  go_quiet (fail)
  have HB2 : Hid (Below w1.heap.size w1 (w1.drewN nq)) := below_drewN (Below.refl _ _) nq
  clear k1 k2 k1' k2' c2 d3 d4
  generalize w1.drewN nq = w2 at *
  go_wp2_with fail
  go_loopg [8] N (fun g iv wr => ∃ k : Nat, k ≤ N ∧ g = N - k ∧ iv = .int .i64 k ∧ Hid (Below w1.heap.size w1 wr))
  case atStart => exact ⟨0, by omega, rfl, rfl, HB2⟩
  case round =>
    obtain ⟨k, hk, hg, rfl, HBW⟩ := hrel
    have HG : Hid _ := hg
    have g3 := cell_kept HBW.out HD3.out
    clear hg
    by_cases hlt : k < N
    · obtain ⟨b, off, ha, hcell⟩ : ∃ b off, a = some ⟨b, off, none⟩ ∧ ∀ j, j < data.length → wr.cell? ⟨b, off + j, none⟩ = some (.int .u8 (data.getD j 0).toNat) := by
        rcases bytesAt_below2 HB.out (HB1.out.trans (HBW.out.mono HB1.out.size)) with h | h
        · exfalso
          rw [h] at hn1
          simp at hn1
          omega
        · exact h
      subst ha
      have HPT : Hid (BytesAt wr (some ⟨b, off + 64 * k, none⟩) (pieceAt data k)) := BytesAt.part hcell (64 * k) 64
      have hpl := pieceAt_length data k
      obtain ⟨pb, po, hpa, hpl2, hpc⟩ : ∃ pb po, pa = some ⟨pb, po, none⟩ ∧ pb < wr.heap.size ∧ ∀ i, i < (toksOf f data).length → ∃ ai ci, wr.cell? ⟨pb, po + i, none⟩ = some (.slice ai ((toksOf f data).getD i []).length ci) ∧ ((toksOf f data).getD i []).length ≤ 9223372036854775807 ∧ ToksAt wr ai ((toksOf f data).getD i []) := by
        rcases HAT.out.below HBW.out with h | h
        · exfalso
          have h1 := HCN.out
          rw [h] at h1
          simp at h1
          omega
        · exact h
      subst hpa
      obtain ⟨ai, ci, p1, p2, p3⟩ := hpc k (by rw [HCN.out]; exact hlt)
      rw [toksOf_getD f data k (by rw [HNN.out]; exact hlt)] at p1 p2 p3
      have HTK : Hid (ToksAt wr ai (f (pieceAt data k))) := p3
      have HBB : Hid (bestB (pieceAt data k) (f (pieceAt data k)) = true) := HF.out _ (piece_le data k)
      clear hcell hpc p3
      by_cases hto : data.length < 64 * (k + 1)
      · have hto' : (data.length : Int) < ((k : Int) + 1) * 64 := by omega
        obtain ⟨K, hK⟩ : ∃ K : Nat, K = 64 * k := ⟨_, rfl⟩
        have hTK : (pieceAt data k).length = data.length - K := by omega
        have HBEST : Hid (∀ X, Calls Try.prog 49 #[.slice (some ⟨b, off + K, none⟩) (data.length - K) (cap - K), .slice ai (f (pieceAt data k)).length ci] (above wr X) fun e w' => e = .returned (.bool true) ∧ Below (above wr X).heap.size (above wr X) w') := fun X => by
          have hbx := above_below wr X
          have h := best_calls (some ⟨b, off + K, none⟩) ai (pieceAt data k) (f (pieceAt data k)) (cap - K) ci (above wr X) (piece_le data k) p2 (bytesAt_below2 (by rw [hK]; exact HPT.out) hbx) (HTK.out.below hbx)
          rw [hTK, HBB.out] at h
          exact h.mono fun e w' hh => ⟨hh.2, hh.1⟩
        have hkK : IntKind.i64.wrap ((k : Int) * 64) = (K : Int) := by rw [wrapEq _ (by omega)]; omega
        have hb1 : (0 : Int) ≤ (K : Int) ∧ (K : Int) ≤ (data.length : Int) ∧ (data.length : Int) ≤ (cap : Int) := by omega
        have hb2 : ¬ (cap : Int) < (data.length : Int) := by omega
        have hb3 : ¬ (data.length : Int) < (K : Int) := by omega
        have hcK : ¬ cap = K := by omega
        have hkI : 0 ≤ (k : Int) ∧ (k : Int) < (N : Int) := by omega
        have q3 := above_cell g3
        have q1 := above_cell p1
        generalize (f (pieceAt data k)).length = tl at *
        clear hK hTK
        go_wp2_with fail
        refine wp_region_above (W := wr) (Below.refl _ _) (by kernel_rfl) (by kernel_rfl) ?_
        repeat (go_big_quiet_step ((go_at_call 49; exact Calls.above_of (HBEST.out _))))
        refine wpQuiet_nil ?_
        rintro _ ⟨X, rfl⟩
        have HB9 : Hid (Below w1.heap.size w1 (above wr X)) := HBW.out.trans ((above_below wr X).mono HBW.out.size)
        clear q1 q3 p1 g3
        generalize above wr X = w5 at *
        go_wp2
        go_roundg (N - (k + 1))
        case measure => have := HG.out; omega
        case rel => exact ⟨k + 1, by omega, rfl, by go_num, HB9⟩
      · have hto' : ¬ (data.length : Int) < ((k : Int) + 1) * 64 := by omega
        obtain ⟨T, hT⟩ : ∃ T : Nat, T = 64 * (k + 1) := ⟨_, rfl⟩
        obtain ⟨K, hK⟩ : ∃ K : Nat, K = 64 * k := ⟨_, rfl⟩
        have hTK : (pieceAt data k).length = T - K := by omega
        have HBEST : Hid (∀ X, Calls Try.prog 49 #[.slice (some ⟨b, off + K, none⟩) (T - K) (cap - K), .slice ai (f (pieceAt data k)).length ci] (above wr X) fun e w' => e = .returned (.bool true) ∧ Below (above wr X).heap.size (above wr X) w') := fun X => by
          have hbx := above_below wr X
          have h := best_calls (some ⟨b, off + K, none⟩) ai (pieceAt data k) (f (pieceAt data k)) (cap - K) ci (above wr X) (piece_le data k) p2 (bytesAt_below2 (by rw [hK]; exact HPT.out) hbx) (HTK.out.below hbx)
          rw [hTK, HBB.out] at h
          exact h.mono fun e w' hh => ⟨hh.2, hh.1⟩
        have hkK : IntKind.i64.wrap ((k : Int) * 64) = (K : Int) := by rw [wrapEq _ (by omega)]; omega
        have HTV : Hid (((k : Int) + 1) * 64 = (T : Int)) := by show _ = _; omega
        have hb1 : (0 : Int) ≤ (K : Int) ∧ (K : Int) ≤ (T : Int) ∧ (T : Int) ≤ (cap : Int) := by omega
        have hb2 : ¬ (cap : Int) < (T : Int) := by omega
        have hb3 : ¬ (T : Int) < (K : Int) := by omega
        have hcK : ¬ cap = K := by omega
        have hkI : 0 ≤ (k : Int) ∧ (k : Int) < (N : Int) := by omega
        have q3 := above_cell g3
        have q1 := above_cell p1
        generalize (f (pieceAt data k)).length = tl at *
        clear hT hK hTK
        go_wp2_with fail
        rw [HTV.out]
        refine wp_region_above (W := wr) (Below.refl _ _) (by kernel_rfl) (by kernel_rfl) ?_
        repeat (go_big_quiet_step ((go_at_call 49; exact Calls.above_of (HBEST.out _))))
        refine wpQuiet_nil ?_
        rintro _ ⟨X, rfl⟩
        have HB9 : Hid (Below w1.heap.size w1 (above wr X)) := HBW.out.trans ((above_below wr X).mono HBW.out.size)
        clear q1 q3 p1 g3
        generalize above wr X = w5 at *
        go_wp2
        go_roundg (N - (k + 1))
        case measure => have := HG.out; omega
        case rel => exact ⟨k + 1, by omega, rfl, by go_num, HB9⟩
    · have hlt' : ¬ (k : Int) < (N : Int) := by omega
      go_wp2
      go_ret
      exact ⟨HB1.out.trans (HBW.out.mono HB1.out.size), rfl⟩
end Go.Proofs.Ytnpnaglgllcpfaa
