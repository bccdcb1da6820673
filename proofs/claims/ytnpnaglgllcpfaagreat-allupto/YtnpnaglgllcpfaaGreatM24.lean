/-
  Lemmas for the law All: Parses0, Cmp0, Cmp1, Cmp2.
-/
import Derived.Test.YtnpnaglgllcpfaaGreatM23
import Derived.Test.YtnpnaglgllcpfaaGreatM14
import Derived.StillTailTactics
/- The laws Parses and Counts, out of what Parse and Ways answer. -/
namespace Go.Proofs.YtnpnaglgllcpfaaGreat
set_option maxRecDepth 100000
open Go.RowKit

set_option maxHeartbeats 1000000 in
theorem counted_calls (hW : WaysSaid) (a : Option Addr) (p : List UInt8) (cap : Nat) (w : World) (hl : p.length ≤ 9223372036854775807) (hb : BytesAt w a p) :
    Calls Tryz.prog 29 #[.slice a p.length cap] w fun e w' => Below w.heap.size w w' ∧ e = .returned (.bool true) := by
  have HB : Hid (BytesAt w a p) := hb
  have HW : Hid WaysSaid := hW
  clear hb hW
  go_enter Tryz.func29, Tryz.ntmps29
  go_wp2_with fail
  refine (HW.out a p cap w hl HB.out).mono ?_
  rintro e w1 ⟨hb1, ⟨hlong, rfl⟩ | ⟨hshort, rfl⟩⟩
  · have HB1 : Hid (Below w.heap.size w w1) := hb1
    clear hb1
    go_wp2_with ((go_at_call 36; go_in))
    go_ret
    exact ⟨HB1.out, rfl⟩
  · have HB1 : Hid (Below w.heap.size w w1) := hb1
    have hs1 := hb1.size
    clear hb1
    go_wp2_with fail
    refine (least_calls a p cap _ hshort (bytesAt_below2 HB.out HB1.out)).mono ?_
    rintro e w2 ⟨hb2, rfl⟩
    have HB2 : Hid (Below w.heap.size w w2) := HB1.out.trans (hb2.mono hs1)
    clear hb2
    generalize leastC p = C at *
    generalize cap9 (leastW p : Int) = U at *
    go_wp2_with ((go_at_call 36; go_in))
    go_ret
    exact ⟨HB2.out, rfl⟩
set_option maxHeartbeats 1000000 in
theorem parsed_calls (f : List UInt8 → List Tok) (hf : Chosen f) (hP : ParseSaid f) (a : Option Addr) (p : List UInt8) (cap : Nat) (w : World) (hl : p.length ≤ 9223372036854775807) (hb : BytesAt w a p) :
    Calls Tryz.prog 28 #[.slice a p.length cap] w fun e w' => Below w.heap.size w w' ∧ ∃ v, e = .returned (.tuple #[v, .bool true]) := by
  have HB : Hid (BytesAt w a p) := hb
  have HP : Hid (ParseSaid f) := hP
  have HF : Hid (Chosen f) := hf
  clear hb hP hf
  go_enter Tryz.func28, Tryz.ntmps28
  go_wp2_with fail
  refine (HP.out a p cap w hl HB.out).mono ?_
  rintro e w1 ⟨hb1, ⟨hlong, ta, c, rfl⟩ | ⟨hshort, v, rfl, hrow⟩⟩
  · have HB1 : Hid (Below w.heap.size w w1) := hb1
    clear hb1
    go_wp2_with ((go_at_call 36; go_in))
    go_ret2
    exact ⟨HB1.out, _, rfl⟩
  · have HB1 : Hid (Below w.heap.size w w1) := hb1
    have hs1 := hb1.size
    have HTK : Hid (TokRow w1 w.heap.size v (f p)) := hrow
    obtain ⟨to, tc, rfl⟩ := hrow.form
    clear hb1 hrow
    have htl := own_max HTK.out
    go_wp2_with ((go_at_call 36; go_in))
    refine (best_calls a to p (f p) cap tc _ hshort htl (bytesAt_below2 HB.out HB1.out) (TokRow.toks HTK.out)).mono ?_
    rintro e w2 ⟨hb2, rfl⟩
    have HB2 : Hid (Below w.heap.size w w2) := HB1.out.trans (hb2.mono hs1)
    rw [HF.out p hshort]
    clear hb2
    go_wp2
    go_ret2
    exact ⟨HB2.out, _, rfl⟩
end Go.Proofs.YtnpnaglgllcpfaaGreat

/- A stream of data, each frame's cost the least: pressref.Compressed. -/
namespace Go.Proofs.YtnpnaglgllcpfaaGreat
set_option maxRecDepth 100000
open Go.RowKit

set_option maxHeartbeats 1000000 in
theorem compressedRef_calls (f : List UInt8 → List Tok) (hf : Chosen f) (a sa : Option Addr) (data : List UInt8) (cap sc : Nat) (w : World) (hd : data.length ≤ 2048) (hcap : data.length ≤ cap) (hb : BytesAt w a data) (hs : BytesAt w sa (streamOf f data)) (hsl : (streamOf f data).length ≤ 9223372036854775807) :
    Calls Tryz.prog 59 #[.slice a data.length cap, .slice sa (streamOf f data).length sc, .int .i64 0] w fun e w' => Below w.heap.size w w' ∧ e = .returned (.bool true) := by
  have HB : Hid (BytesAt w a data) := hb
  have HS : Hid (BytesAt w sa (streamOf f data)) := hs
  have HF : Hid (Chosen f) := hf
  obtain ⟨ends, hrd⟩ := stream_read hf data hd
  have HRD : Hid _ := hrd
  clear hb hs hf hrd
  go_enter Tryz.func59, Tryz.ntmps59
  go_wp2_with fail
  refine (read_calls sa (streamOf f data) sc w hsl HS.out).mono ?_
  rintro e w1 ⟨hb1, rfl, L, n, vP, vD, vE, ht1, hl1⟩
  rw [HRD.out] at ht1 hl1
  have HB1 : Hid (Below w.heap.size w w1) := hb1
  have hs1 := hb1.size
  have k1 := conv_own hl1.data
  have k2 := conv_bytes cap (bytesAt_below2 HB.out hb1)
  have k1' := fun n => conv_own (w := w1.drewN n) hl1.data
  have k2' := fun n => conv_bytes (w := w1.drewN n) cap (bytesAt_below2 HB.out (below_drewN hb1 n))
  have HLS : Hid (Lists w1 (w.heap.size + 1) (toksOf f data) data ends vP vD vE) := hl1
  obtain ⟨da, dc, rfl⟩ := hl1.data.form
  obtain ⟨pa, pc, hvp, hpm, hat⟩ := hl1.at
  subst hvp
  have HAT : Hid (PiecesAt w1 pa (toksOf f data)) := hat
  obtain ⟨⟨c0, c1, c2⟩, f1, f2⟩ := ht1.cell
  obtain ⟨⟨d3, d4, d5⟩, _⟩ := ht1.lists
  have hcn : (toksOf f data).length = cutN data := toksOf_length f data
  have hc33 : cutN data ≤ 33 := by unfold cutN; omega
  rw [hcn] at d3
  have HT1 : Hid _ := ht1
  clear hb1 ht1 hl1 hat c0 c1 f1 f2 d5 hpm
  have HD3 : Hid (w1.cell? ⟨w.heap.size, 3, none⟩ = some (.slice pa (cutN data) pc)) := d3
  have HCN : Hid ((toksOf f data).length = cutN data) := hcn
  have HN64 : Hid (cutN data = (data.length + 63) / 64) := rfl
  have hn1 : 64 * cutN data ≤ data.length + 63 := by unfold cutN; omega
  have hn2 : data.length ≤ 64 * cutN data := by unfold cutN; omega
  clear hcn
  generalize hNN : cutN data = N at *
  have HNN : Hid (cutN data = N) := hNN
  clear hNN
  go_wp2_with fail
  go_quiet (fail)
  have HB2 : Hid (Below w1.heap.size w1 (w1.drewN nq)) := below_drewN (Below.refl _ _) nq
  clear k1 k2 k1' k2' c2 d3 d4
  generalize w1.drewN nq = w2 at *
  go_wp2_with fail
  go_loopg [8] N (fun g iv wr => ∃ k : Nat, k ≤ N ∧ g = N - k ∧ iv = .int .i64 k ∧ Hid (Below w1.heap.size w1 wr))
  case atStart => exact ⟨0, by omega, rfl, rfl, HB2⟩
  case round =>
    obtain ⟨k, hk, hg, rfl, HBW⟩ := hrel
    have HG : Hid _ := hg
    have g3 := cell_kept HBW.out HD3.out
    clear hg
    by_cases hlt : k < N
    · obtain ⟨b, off, ha, hcell⟩ : ∃ b off, a = some ⟨b, off, none⟩ ∧ ∀ j, j < data.length → wr.cell? ⟨b, off + j, none⟩ = some (.int .u8 (data.getD j 0).toNat) := by
        rcases bytesAt_below2 HB.out (HB1.out.trans (HBW.out.mono HB1.out.size)) with h | h
        · exfalso
          rw [h] at hn1
          simp at hn1
          omega
        · exact h
      subst ha
      have HPT : Hid (BytesAt wr (some ⟨b, off + 64 * k, none⟩) (pieceAt data k)) := BytesAt.part hcell (64 * k) 64
      have hpl := pieceAt_length data k
      obtain ⟨pb, po, hpa, hpl2, hpc⟩ : ∃ pb po, pa = some ⟨pb, po, none⟩ ∧ pb < wr.heap.size ∧ ∀ i, i < (toksOf f data).length → ∃ ai ci, wr.cell? ⟨pb, po + i, none⟩ = some (.slice ai ((toksOf f data).getD i []).length ci) ∧ ((toksOf f data).getD i []).length ≤ 9223372036854775807 ∧ ToksAt wr ai ((toksOf f data).getD i []) := by
        rcases HAT.out.below HBW.out with h | h
        · exfalso
          have h1 := HCN.out
          rw [h] at h1
          simp at h1
          omega
        · exact h
      subst hpa
      obtain ⟨ai, ci, p1, p2, p3⟩ := hpc k (by rw [HCN.out]; exact hlt)
      rw [toksOf_getD f data k (by rw [HNN.out]; exact hlt)] at p1 p2 p3
      have HTK : Hid (ToksAt wr ai (f (pieceAt data k))) := p3
      have HBB : Hid (bestB (pieceAt data k) (f (pieceAt data k)) = true) := HF.out _ (piece_le data k)
      clear hcell hpc p3
      by_cases hto : data.length < 64 * (k + 1)
      · have hto' : (data.length : Int) < ((k : Int) + 1) * 64 := by omega
        obtain ⟨K, hK⟩ : ∃ K : Nat, K = 64 * k := ⟨_, rfl⟩
        have hTK : (pieceAt data k).length = data.length - K := by omega
        have HBEST : Hid (∀ X, Calls Tryz.prog 53 #[.slice (some ⟨b, off + K, none⟩) (data.length - K) (cap - K), .slice ai (f (pieceAt data k)).length ci] (above wr X) fun e w' => e = .returned (.bool true) ∧ Below (above wr X).heap.size (above wr X) w') := fun X => by
          have hbx := above_below wr X
          have h := best_calls (some ⟨b, off + K, none⟩) ai (pieceAt data k) (f (pieceAt data k)) (cap - K) ci (above wr X) (piece_le data k) p2 (bytesAt_below2 (by rw [hK]; exact HPT.out) hbx) (HTK.out.below hbx)
          rw [hTK, HBB.out] at h
          exact h.mono fun e w' hh => ⟨hh.2, hh.1⟩
        have hkK : IntKind.i64.wrap ((k : Int) * 64) = (K : Int) := by rw [wrapEq _ (by omega)]; omega
        have hb1 : (0 : Int) ≤ (K : Int) ∧ (K : Int) ≤ (data.length : Int) ∧ (data.length : Int) ≤ (cap : Int) := by omega
        have hb2 : ¬ (cap : Int) < (data.length : Int) := by omega
        have hb3 : ¬ (data.length : Int) < (K : Int) := by omega
        have hcK : ¬ cap = K := by omega
        have hkI : 0 ≤ (k : Int) ∧ (k : Int) < (N : Int) := by omega
        have q3 := above_cell g3
        have q1 := above_cell p1
        generalize (f (pieceAt data k)).length = tl at *
        clear hK hTK
        go_wp2_with fail
        refine wp_region_above (W := wr) (Below.refl _ _) (by kernel_rfl) (by kernel_rfl) ?_
        repeat (go_big_quiet_step ((go_at_call 53; exact Calls.above_of (HBEST.out _))))
        refine wpQuiet_nil ?_
        rintro _ ⟨X, rfl⟩
        have HB9 : Hid (Below w1.heap.size w1 (above wr X)) := HBW.out.trans ((above_below wr X).mono HBW.out.size)
        clear q1 q3 p1 g3
        generalize above wr X = w5 at *
        go_wp2
        go_roundg (N - (k + 1))
        case measure => have := HG.out; omega
        case rel => exact ⟨k + 1, by omega, rfl, by go_num, HB9⟩
      · have hto' : ¬ (data.length : Int) < ((k : Int) + 1) * 64 := by omega
        obtain ⟨T, hT⟩ : ∃ T : Nat, T = 64 * (k + 1) := ⟨_, rfl⟩
        obtain ⟨K, hK⟩ : ∃ K : Nat, K = 64 * k := ⟨_, rfl⟩
        have hTK : (pieceAt data k).length = T - K := by omega
        have HBEST : Hid (∀ X, Calls Tryz.prog 53 #[.slice (some ⟨b, off + K, none⟩) (T - K) (cap - K), .slice ai (f (pieceAt data k)).length ci] (above wr X) fun e w' => e = .returned (.bool true) ∧ Below (above wr X).heap.size (above wr X) w') := fun X => by
          have hbx := above_below wr X
          have h := best_calls (some ⟨b, off + K, none⟩) ai (pieceAt data k) (f (pieceAt data k)) (cap - K) ci (above wr X) (piece_le data k) p2 (bytesAt_below2 (by rw [hK]; exact HPT.out) hbx) (HTK.out.below hbx)
          rw [hTK, HBB.out] at h
          exact h.mono fun e w' hh => ⟨hh.2, hh.1⟩
        have hkK : IntKind.i64.wrap ((k : Int) * 64) = (K : Int) := by rw [wrapEq _ (by omega)]; omega
        have HTV : Hid (((k : Int) + 1) * 64 = (T : Int)) := by show _ = _; omega
        have hb1 : (0 : Int) ≤ (K : Int) ∧ (K : Int) ≤ (T : Int) ∧ (T : Int) ≤ (cap : Int) := by omega
        have hb2 : ¬ (cap : Int) < (T : Int) := by omega
        have hb3 : ¬ (T : Int) < (K : Int) := by omega
        have hcK : ¬ cap = K := by omega
        have hkI : 0 ≤ (k : Int) ∧ (k : Int) < (N : Int) := by omega
        have q3 := above_cell g3
        have q1 := above_cell p1
        generalize (f (pieceAt data k)).length = tl at *
        clear hT hK hTK
        go_wp2_with fail
        rw [HTV.out]
        refine wp_region_above (W := wr) (Below.refl _ _) (by kernel_rfl) (by kernel_rfl) ?_
        repeat (go_big_quiet_step ((go_at_call 53; exact Calls.above_of (HBEST.out _))))
        refine wpQuiet_nil ?_
        rintro _ ⟨X, rfl⟩
        have HB9 : Hid (Below w1.heap.size w1 (above wr X)) := HBW.out.trans ((above_below wr X).mono HBW.out.size)
        clear q1 q3 p1 g3
        generalize above wr X = w5 at *
        go_wp2
        go_roundg (N - (k + 1))
        case measure => have := HG.out; omega
        case rel => exact ⟨k + 1, by omega, rfl, by go_num, HB9⟩
    · have hlt' : ¬ (k : Int) < (N : Int) := by omega
      go_wp2
      go_ret
      exact ⟨HB1.out.trans (HBW.out.mono HB1.out.size), rfl⟩
end Go.Proofs.YtnpnaglgllcpfaaGreat

/- The law Compresses, out of what Parse and Compress answer. -/
namespace Go.Proofs.YtnpnaglgllcpfaaGreat
set_option maxRecDepth 100000
open Go.RowKit

theorem compressedLong_calls (a sa : Option Addr) (data : List UInt8) (cap sc : Nat) (w : World) (hd : 2048 < data.length) (hl : data.length ≤ 9223372036854775807) :
    Calls Tryz.prog 59 #[.slice a data.length cap, .slice sa 0 sc, .int .i64 1] w fun e w' => e = .returned (.bool true) ∧ w' = w := by
  go_enter Tryz.func59, Tryz.ntmps59
  go_wp2
  go_ret
  exact ⟨rfl, rfl⟩
set_option maxHeartbeats 2000000 in
theorem compressed_calls (f : List UInt8 → List Tok) (hf : Chosen f) (hP : ParseSaid f) (hC : CompressSaid f) (a : Option Addr) (data : List UInt8) (cap : Nat) (w : World) (hl : data.length ≤ 9223372036854775807) (hcap : data.length ≤ cap) (hb : BytesAt w a data) :
    Calls Tryz.prog 31 #[.slice a data.length cap] w fun e w' => Below w.heap.size w w' ∧ ∃ v, e = .returned (.tuple #[v, .bool true]) := by
  have HB : Hid (BytesAt w a data) := hb
  have HF : Hid (Chosen f) := hf
  have HP : Hid (ParseSaid f) := hP
  have HC : Hid (CompressSaid f) := hC
  clear hb hf hP hC
  go_enter Tryz.func31, Tryz.ntmps31
  go_wp2_with fail
  refine (HC.out a data cap w hl hcap HB.out).mono ?_
  rintro e w1 ⟨hb1, ⟨hlong, ta, tc, rfl⟩ | ⟨hshort, v, rfl, hown⟩⟩
  · have HB1 : Hid (Below w.heap.size w w1) := hb1
    clear hb1
    go_wp2_with ((go_at_call 36; go_in))
    refine (compressedLong_calls a ta data cap tc _ hlong hl).mono ?_
    rintro e w2 ⟨rfl, rfl⟩
    go_wp2
    go_ret2
    exact ⟨HB1.out, _, rfl⟩
  · have HB1 : Hid (Below w.heap.size w w1) := hb1
    have HO1 : Hid (OwnB w1 w.heap.size v (streamOf f data)) := hown
    have hsm := own_max hown
    obtain ⟨so, sc, rfl⟩ := hown.form
    have HS1 : Hid (BytesAt w1 so (streamOf f data)) := ownB_bytes hown
    clear hb1 hown
    go_wp2_with ((go_at_call 36; go_in))
    refine (compressedRef_calls f HF.out a so data cap sc _ hshort hcap (bytesAt_below2 HB.out HB1.out) HS1.out hsm).mono ?_
    rintro e w2 ⟨hb2, rfl⟩
    have HB2 : Hid (Below w.heap.size w w2) := HB1.out.trans (hb2.mono HB1.out.size)
    have HS2 : Hid (BytesAt w2 so (streamOf f data)) := bytesAt_below2 HS1.out hb2
    obtain ⟨ends, hrd⟩ := stream_read HF.out data hshort
    have HRD : Hid _ := hrd
    clear hb2 hrd
    go_wp2_with fail
    refine (read_calls so (streamOf f data) sc w2 hsm HS2.out).mono ?_
    rintro e w3 ⟨hb3, rfl, L, n, vP, vD, vE, ht3, hl3⟩
    rw [HRD.out] at ht3 hl3
    have HB3 : Hid (Below w.heap.size w w3) := HB2.out.trans (hb3.mono HB2.out.size)
    obtain ⟨pa, pc, hvp, hpm, hat⟩ := hl3.at
    subst hvp
    have HAT : Hid (PiecesAt w3 pa (toksOf f data)) := hat
    obtain ⟨⟨d3, d4, d5⟩, _⟩ := ht3.lists
    have hcn : (toksOf f data).length = cutN data := toksOf_length f data
    have hc33 : cutN data ≤ 33 := by unfold cutN; omega
    rw [hcn] at d3
    have HD3 : Hid (w3.cell? ⟨w2.heap.size, 3, none⟩ = some (.slice pa (cutN data) pc)) := d3
    have HCN : Hid ((toksOf f data).length = cutN data) := hcn
    have hn1 : 64 * cutN data ≤ data.length + 63 := by unfold cutN; omega
    have hn2 : data.length ≤ 64 * cutN data := by unfold cutN; omega
    clear hb3 ht3 hl3 hat d3 d4 d5 hpm hcn
    generalize hNN : cutN data = N at *
    have HNN : Hid (cutN data = N) := hNN
    clear hNN
    generalize w2.heap.size = xq at *
    go_wp2_with fail
    go_loopg [8] N (fun g iv wr => ∃ k : Nat, k ≤ N ∧ g = N - k ∧ iv = .int .i64 k ∧ Hid (Below w3.heap.size w3 wr))
    case atStart => exact ⟨0, by omega, rfl, rfl, Below.refl _ _⟩
    case round =>
      obtain ⟨k, hk, hg, rfl, HBW⟩ := hrel
      have HG : Hid _ := hg
      have g3 := cell_kept HBW.out HD3.out
      clear hg
      by_cases hlt : k < N
      · obtain ⟨b, off, ha, hcell⟩ : ∃ b off, a = some ⟨b, off, none⟩ ∧ ∀ j, j < data.length → wr.cell? ⟨b, off + j, none⟩ = some (.int .u8 (data.getD j 0).toNat) := by
          rcases bytesAt_below2 HB.out (HB3.out.trans (HBW.out.mono HB3.out.size)) with h | h
          · exfalso
            rw [h] at hn1
            simp at hn1
            omega
          · exact h
        subst ha
        have HPT : Hid (BytesAt wr (some ⟨b, off + 64 * k, none⟩) (pieceAt data k)) := BytesAt.part hcell (64 * k) 64
        have hpl := pieceAt_length data k
        obtain ⟨pb, po, hpa, hpl2, hpc⟩ : ∃ pb po, pa = some ⟨pb, po, none⟩ ∧ pb < wr.heap.size ∧ ∀ i, i < (toksOf f data).length → ∃ ai ci, wr.cell? ⟨pb, po + i, none⟩ = some (.slice ai ((toksOf f data).getD i []).length ci) ∧ ((toksOf f data).getD i []).length ≤ 9223372036854775807 ∧ ToksAt wr ai ((toksOf f data).getD i []) := by
          rcases HAT.out.below HBW.out with h | h
          · exfalso
            have h1 := HCN.out
            rw [h] at h1
            simp at h1
            omega
          · exact h
        subst hpa
        obtain ⟨ai, ci, p1, p2, p3⟩ := hpc k (by rw [HCN.out]; exact hlt)
        rw [toksOf_getD f data k (by rw [HNN.out]; exact hlt)] at p1 p2 p3
        have HTK : Hid (ToksAt wr ai (f (pieceAt data k))) := p3
        clear hcell hpc p3
        by_cases hto : data.length < 64 * (k + 1)
        · have hto' : (data.length : Int) < ((k : Int) + 1) * 64 := by omega
          obtain ⟨K, hK⟩ : ∃ K : Nat, K = 64 * k := ⟨_, rfl⟩
          have hTK : (pieceAt data k).length = data.length - K := by omega
          have hple := piece_le data k
          have HPAR : Hid (∀ W, Below wr.heap.size wr W → Calls Tryz.prog 52 #[.slice (some ⟨b, off + K, none⟩) (data.length - K) (cap - K)] W fun e w' => Below W.heap.size W w' ∧ ∃ v, e = .returned (.tuple #[v, .int .i64 0]) ∧ TokRow w' W.heap.size v (f (pieceAt data k))) := fun W hW => by
            have h := HP.out (some ⟨b, off + K, none⟩) (pieceAt data k) (cap - K) W (by omega) (bytesAt_below2 (by rw [hK]; exact HPT.out) hW)
            rw [hTK] at h
            exact h.mono fun e w' hh => ⟨hh.1, by rcases hh.2 with h2 | h2; omega; exact h2.2⟩
          have hkK : IntKind.i64.wrap ((k : Int) * 64) = (K : Int) := by rw [wrapEq _ (by omega)]; omega
          have hkK2 : (k : Int) * 64 = (K : Int) := by omega
          have hb1 : (0 : Int) ≤ (K : Int) ∧ (K : Int) ≤ (data.length : Int) ∧ (data.length : Int) ≤ (cap : Int) := by omega
          have hb2 : ¬ (cap : Int) < (data.length : Int) := by omega
          have hb3 : ¬ (data.length : Int) < (K : Int) := by omega
          have hcK : ¬ cap = K := by omega
          have hkI : 0 ≤ (k : Int) ∧ (k : Int) < (N : Int) := by omega
          clear hK hTK
          go_wp2_with fail
          refine (HPAR.out wr (Below.refl _ _)).mono ?_
          rintro e w5 ⟨hb5, v, rfl, hrow⟩
          have HB5 : Hid (Below w3.heap.size w3 w5) := HBW.out.trans (hb5.mono HBW.out.size)
          have q3 := cell_kept hb5 g3
          have q1 := cell_kept hb5 p1
          have HTK5 : Hid (ToksAt w5 ai (f (pieceAt data k))) := HTK.out.below hb5
          obtain ⟨to, tc, rfl⟩ := hrow.form
          have HTS5 : Hid (ToksAt w5 to (f (pieceAt data k))) := TokRow.toks hrow
          clear hb5 hrow g3 p1
          generalize f (pieceAt data k) = ts at *
          go_wp2_with fail
          refine (sameTokens_calls to ai ts tc ci _ p2 HTS5.out HTK5.out).mono ?_
          rintro e w6 ⟨rfl, nd, rfl⟩
          have HB6 : Hid (Below w3.heap.size w3 (w5.drewN nd)) := below_drewN HB5.out nd
          clear q3 q1
          generalize w5.drewN nd = w6 at *
          go_wp2_with ((go_at_call 36; go_in))
          go_roundg (N - (k + 1))
          case measure => have := HG.out; omega
          case rel => exact ⟨k + 1, by omega, rfl, by go_num, HB6⟩
        · have hto' : ¬ (data.length : Int) < ((k : Int) + 1) * 64 := by omega
          obtain ⟨T, hT⟩ : ∃ T : Nat, T = 64 * (k + 1) := ⟨_, rfl⟩
          obtain ⟨K, hK⟩ : ∃ K : Nat, K = 64 * k := ⟨_, rfl⟩
          have hTK : (pieceAt data k).length = T - K := by omega
          have hple := piece_le data k
          have HPAR : Hid (∀ W, Below wr.heap.size wr W → Calls Tryz.prog 52 #[.slice (some ⟨b, off + K, none⟩) (T - K) (cap - K)] W fun e w' => Below W.heap.size W w' ∧ ∃ v, e = .returned (.tuple #[v, .int .i64 0]) ∧ TokRow w' W.heap.size v (f (pieceAt data k))) := fun W hW => by
            have h := HP.out (some ⟨b, off + K, none⟩) (pieceAt data k) (cap - K) W (by omega) (bytesAt_below2 (by rw [hK]; exact HPT.out) hW)
            rw [hTK] at h
            exact h.mono fun e w' hh => ⟨hh.1, by rcases hh.2 with h2 | h2; omega; exact h2.2⟩
          have hkK : IntKind.i64.wrap ((k : Int) * 64) = (K : Int) := by rw [wrapEq _ (by omega)]; omega
          have hkK2 : (k : Int) * 64 = (K : Int) := by omega
          have hb1 : (0 : Int) ≤ (K : Int) ∧ (K : Int) ≤ (T : Int) ∧ (T : Int) ≤ (cap : Int) := by omega
          have hb2 : ¬ (cap : Int) < (T : Int) := by omega
          have hb3 : ¬ (T : Int) < (K : Int) := by omega
          have hcK : ¬ cap = K := by omega
          have hkI : 0 ≤ (k : Int) ∧ (k : Int) < (N : Int) := by omega
          have HTE : Hid ((k + 1) * 64 = T) := by show _ = _; omega
          clear hT hK hTK
          go_wp2_with fail
          rw [HTE.out]
          refine (HPAR.out wr (Below.refl _ _)).mono ?_
          rintro e w5 ⟨hb5, v, rfl, hrow⟩
          have HB5 : Hid (Below w3.heap.size w3 w5) := HBW.out.trans (hb5.mono HBW.out.size)
          have q3 := cell_kept hb5 g3
          have q1 := cell_kept hb5 p1
          have HTK5 : Hid (ToksAt w5 ai (f (pieceAt data k))) := HTK.out.below hb5
          obtain ⟨to, tc, rfl⟩ := hrow.form
          have HTS5 : Hid (ToksAt w5 to (f (pieceAt data k))) := TokRow.toks hrow
          clear hb5 hrow g3 p1
          generalize f (pieceAt data k) = ts at *
          go_wp2_with fail
          refine (sameTokens_calls to ai ts tc ci _ p2 HTS5.out HTK5.out).mono ?_
          rintro e w6 ⟨rfl, nd, rfl⟩
          have HB6 : Hid (Below w3.heap.size w3 (w5.drewN nd)) := below_drewN HB5.out nd
          clear q3 q1
          generalize w5.drewN nd = w6 at *
          go_wp2_with ((go_at_call 36; go_in))
          go_roundg (N - (k + 1))
          case measure => have := HG.out; omega
          case rel => exact ⟨k + 1, by omega, rfl, by go_num, HB6⟩
      · have hlt' : ¬ (k : Int) < (N : Int) := by omega
        go_wp2
        go_ret2
        exact ⟨HB3.out.trans (HBW.out.mono HB3.out.size), _, rfl⟩
end Go.Proofs.YtnpnaglgllcpfaaGreat

/- What the law's compressed answers: the stream too. -/
namespace Go.Proofs.YtnpnaglgllcpfaaGreat
set_option maxRecDepth 100000
open Go.RowKit

set_option maxHeartbeats 2000000 in
theorem compressed2_calls (f : List UInt8 → List Tok) (hf : Chosen f) (hP : ParseSaid f) (hC : CompressSaid f) (a : Option Addr) (data : List UInt8) (cap : Nat) (w : World) (hl : data.length ≤ 9223372036854775807) (hcap : data.length ≤ cap) (hb : BytesAt w a data) :
    Calls Tryz.prog 31 #[.slice a data.length cap] w fun e w' => Below w.heap.size w w' ∧ ∃ v, e = .returned (.tuple #[v, .bool true]) ∧ (data.length ≤ 2048 → OwnB w' w.heap.size v (streamOf f data)) := by
  have HB : Hid (BytesAt w a data) := hb
  have HF : Hid (Chosen f) := hf
  have HP : Hid (ParseSaid f) := hP
  have HC : Hid (CompressSaid f) := hC
  clear hb hf hP hC
  go_enter Tryz.func31, Tryz.ntmps31
  go_wp2_with fail
  refine (HC.out a data cap w hl hcap HB.out).mono ?_
  rintro e w1 ⟨hb1, ⟨hlong, ta, tc, rfl⟩ | ⟨hshort, v, rfl, hown⟩⟩
  · have HB1 : Hid (Below w.heap.size w w1) := hb1
    clear hb1
    go_wp2_with ((go_at_call 36; go_in))
    refine (compressedLong_calls a ta data cap tc _ hlong hl).mono ?_
    rintro e w2 ⟨rfl, rfl⟩
    go_wp2
    go_ret2
    exact ⟨HB1.out, _, rfl, fun h => by omega⟩
  · have HB1 : Hid (Below w.heap.size w w1) := hb1
    have HO1 : Hid (OwnB w1 w.heap.size v (streamOf f data)) := hown
    have hsm := own_max hown
    obtain ⟨so, sc, rfl⟩ := hown.form
    have HS1 : Hid (BytesAt w1 so (streamOf f data)) := ownB_bytes hown
    clear hb1 hown
    go_wp2_with ((go_at_call 36; go_in))
    refine (compressedRef_calls f HF.out a so data cap sc _ hshort hcap (bytesAt_below2 HB.out HB1.out) HS1.out hsm).mono ?_
    rintro e w2 ⟨hb2, rfl⟩
    have HB2 : Hid (Below w.heap.size w w2) := HB1.out.trans (hb2.mono HB1.out.size)
    have HS2 : Hid (BytesAt w2 so (streamOf f data)) := bytesAt_below2 HS1.out hb2
    have HO2 : Hid (OwnB w2 w.heap.size (.slice so (streamOf f data).length sc) (streamOf f data)) := OwnB.below HO1.out hb2
    obtain ⟨ends, hrd⟩ := stream_read HF.out data hshort
    have HRD : Hid _ := hrd
    clear hb2 hrd
    go_wp2_with fail
    refine (read_calls so (streamOf f data) sc w2 hsm HS2.out).mono ?_
    rintro e w3 ⟨hb3, rfl, L, n, vP, vD, vE, ht3, hl3⟩
    rw [HRD.out] at ht3 hl3
    have HB3 : Hid (Below w.heap.size w w3) := HB2.out.trans (hb3.mono HB2.out.size)
    have HO3 : Hid (OwnB w3 w.heap.size (.slice so (streamOf f data).length sc) (streamOf f data)) := OwnB.below HO2.out hb3
    obtain ⟨pa, pc, hvp, hpm, hat⟩ := hl3.at
    subst hvp
    have HAT : Hid (PiecesAt w3 pa (toksOf f data)) := hat
    obtain ⟨⟨d3, d4, d5⟩, _⟩ := ht3.lists
    have hcn : (toksOf f data).length = cutN data := toksOf_length f data
    have hc33 : cutN data ≤ 33 := by unfold cutN; omega
    rw [hcn] at d3
    have HD3 : Hid (w3.cell? ⟨w2.heap.size, 3, none⟩ = some (.slice pa (cutN data) pc)) := d3
    have HCN : Hid ((toksOf f data).length = cutN data) := hcn
    have hn1 : 64 * cutN data ≤ data.length + 63 := by unfold cutN; omega
    have hn2 : data.length ≤ 64 * cutN data := by unfold cutN; omega
    clear hb3 ht3 hl3 hat d3 d4 d5 hpm hcn
    generalize hNN : cutN data = N at *
    have HNN : Hid (cutN data = N) := hNN
    clear hNN
    generalize w2.heap.size = xq at *
    go_wp2_with fail
    go_loopg [8] N (fun g iv wr => ∃ k : Nat, k ≤ N ∧ g = N - k ∧ iv = .int .i64 k ∧ Hid (Below w3.heap.size w3 wr))
    case atStart => exact ⟨0, by omega, rfl, rfl, Below.refl _ _⟩
    case round =>
      obtain ⟨k, hk, hg, rfl, HBW⟩ := hrel
      have HG : Hid _ := hg
      have g3 := cell_kept HBW.out HD3.out
      clear hg
      by_cases hlt : k < N
      · obtain ⟨b, off, ha, hcell⟩ : ∃ b off, a = some ⟨b, off, none⟩ ∧ ∀ j, j < data.length → wr.cell? ⟨b, off + j, none⟩ = some (.int .u8 (data.getD j 0).toNat) := by
          rcases bytesAt_below2 HB.out (HB3.out.trans (HBW.out.mono HB3.out.size)) with h | h
          · exfalso
            rw [h] at hn1
            simp at hn1
            omega
          · exact h
        subst ha
        have HPT : Hid (BytesAt wr (some ⟨b, off + 64 * k, none⟩) (pieceAt data k)) := BytesAt.part hcell (64 * k) 64
        have hpl := pieceAt_length data k
        obtain ⟨pb, po, hpa, hpl2, hpc⟩ : ∃ pb po, pa = some ⟨pb, po, none⟩ ∧ pb < wr.heap.size ∧ ∀ i, i < (toksOf f data).length → ∃ ai ci, wr.cell? ⟨pb, po + i, none⟩ = some (.slice ai ((toksOf f data).getD i []).length ci) ∧ ((toksOf f data).getD i []).length ≤ 9223372036854775807 ∧ ToksAt wr ai ((toksOf f data).getD i []) := by
          rcases HAT.out.below HBW.out with h | h
          · exfalso
            have h1 := HCN.out
            rw [h] at h1
            simp at h1
            omega
          · exact h
        subst hpa
        obtain ⟨ai, ci, p1, p2, p3⟩ := hpc k (by rw [HCN.out]; exact hlt)
        rw [toksOf_getD f data k (by rw [HNN.out]; exact hlt)] at p1 p2 p3
        have HTK : Hid (ToksAt wr ai (f (pieceAt data k))) := p3
        clear hcell hpc p3
        by_cases hto : data.length < 64 * (k + 1)
        · have hto' : (data.length : Int) < ((k : Int) + 1) * 64 := by omega
          obtain ⟨K, hK⟩ : ∃ K : Nat, K = 64 * k := ⟨_, rfl⟩
          have hTK : (pieceAt data k).length = data.length - K := by omega
          have hple := piece_le data k
          have HPAR : Hid (∀ W, Below wr.heap.size wr W → Calls Tryz.prog 52 #[.slice (some ⟨b, off + K, none⟩) (data.length - K) (cap - K)] W fun e w' => Below W.heap.size W w' ∧ ∃ v, e = .returned (.tuple #[v, .int .i64 0]) ∧ TokRow w' W.heap.size v (f (pieceAt data k))) := fun W hW => by
            have h := HP.out (some ⟨b, off + K, none⟩) (pieceAt data k) (cap - K) W (by omega) (bytesAt_below2 (by rw [hK]; exact HPT.out) hW)
            rw [hTK] at h
            exact h.mono fun e w' hh => ⟨hh.1, by rcases hh.2 with h2 | h2; omega; exact h2.2⟩
          have hkK : IntKind.i64.wrap ((k : Int) * 64) = (K : Int) := by rw [wrapEq _ (by omega)]; omega
          have hkK2 : (k : Int) * 64 = (K : Int) := by omega
          have hb1 : (0 : Int) ≤ (K : Int) ∧ (K : Int) ≤ (data.length : Int) ∧ (data.length : Int) ≤ (cap : Int) := by omega
          have hb2 : ¬ (cap : Int) < (data.length : Int) := by omega
          have hb3 : ¬ (data.length : Int) < (K : Int) := by omega
          have hcK : ¬ cap = K := by omega
          have hkI : 0 ≤ (k : Int) ∧ (k : Int) < (N : Int) := by omega
          clear hK hTK
          go_wp2_with fail
          refine (HPAR.out wr (Below.refl _ _)).mono ?_
          rintro e w5 ⟨hb5, v, rfl, hrow⟩
          have HB5 : Hid (Below w3.heap.size w3 w5) := HBW.out.trans (hb5.mono HBW.out.size)
          have q3 := cell_kept hb5 g3
          have q1 := cell_kept hb5 p1
          have HTK5 : Hid (ToksAt w5 ai (f (pieceAt data k))) := HTK.out.below hb5
          obtain ⟨to, tc, rfl⟩ := hrow.form
          have HTS5 : Hid (ToksAt w5 to (f (pieceAt data k))) := TokRow.toks hrow
          clear hb5 hrow g3 p1
          generalize f (pieceAt data k) = ts at *
          go_wp2_with fail
          refine (sameTokens_calls to ai ts tc ci _ p2 HTS5.out HTK5.out).mono ?_
          rintro e w6 ⟨rfl, nd, rfl⟩
          have HB6 : Hid (Below w3.heap.size w3 (w5.drewN nd)) := below_drewN HB5.out nd
          clear q3 q1
          generalize w5.drewN nd = w6 at *
          go_wp2_with ((go_at_call 36; go_in))
          go_roundg (N - (k + 1))
          case measure => have := HG.out; omega
          case rel => exact ⟨k + 1, by omega, rfl, by go_num, HB6⟩
        · have hto' : ¬ (data.length : Int) < ((k : Int) + 1) * 64 := by omega
          obtain ⟨T, hT⟩ : ∃ T : Nat, T = 64 * (k + 1) := ⟨_, rfl⟩
          obtain ⟨K, hK⟩ : ∃ K : Nat, K = 64 * k := ⟨_, rfl⟩
          have hTK : (pieceAt data k).length = T - K := by omega
          have hple := piece_le data k
          have HPAR : Hid (∀ W, Below wr.heap.size wr W → Calls Tryz.prog 52 #[.slice (some ⟨b, off + K, none⟩) (T - K) (cap - K)] W fun e w' => Below W.heap.size W w' ∧ ∃ v, e = .returned (.tuple #[v, .int .i64 0]) ∧ TokRow w' W.heap.size v (f (pieceAt data k))) := fun W hW => by
            have h := HP.out (some ⟨b, off + K, none⟩) (pieceAt data k) (cap - K) W (by omega) (bytesAt_below2 (by rw [hK]; exact HPT.out) hW)
            rw [hTK] at h
            exact h.mono fun e w' hh => ⟨hh.1, by rcases hh.2 with h2 | h2; omega; exact h2.2⟩
          have hkK : IntKind.i64.wrap ((k : Int) * 64) = (K : Int) := by rw [wrapEq _ (by omega)]; omega
          have hkK2 : (k : Int) * 64 = (K : Int) := by omega
          have hb1 : (0 : Int) ≤ (K : Int) ∧ (K : Int) ≤ (T : Int) ∧ (T : Int) ≤ (cap : Int) := by omega
          have hb2 : ¬ (cap : Int) < (T : Int) := by omega
          have hb3 : ¬ (T : Int) < (K : Int) := by omega
          have hcK : ¬ cap = K := by omega
          have hkI : 0 ≤ (k : Int) ∧ (k : Int) < (N : Int) := by omega
          have HTE : Hid ((k + 1) * 64 = T) := by show _ = _; omega
          clear hT hK hTK
          go_wp2_with fail
          rw [HTE.out]
          refine (HPAR.out wr (Below.refl _ _)).mono ?_
          rintro e w5 ⟨hb5, v, rfl, hrow⟩
          have HB5 : Hid (Below w3.heap.size w3 w5) := HBW.out.trans (hb5.mono HBW.out.size)
          have q3 := cell_kept hb5 g3
          have q1 := cell_kept hb5 p1
          have HTK5 : Hid (ToksAt w5 ai (f (pieceAt data k))) := HTK.out.below hb5
          obtain ⟨to, tc, rfl⟩ := hrow.form
          have HTS5 : Hid (ToksAt w5 to (f (pieceAt data k))) := TokRow.toks hrow
          clear hb5 hrow g3 p1
          generalize f (pieceAt data k) = ts at *
          go_wp2_with fail
          refine (sameTokens_calls to ai ts tc ci _ p2 HTS5.out HTK5.out).mono ?_
          rintro e w6 ⟨rfl, nd, rfl⟩
          have HB6 : Hid (Below w3.heap.size w3 (w5.drewN nd)) := below_drewN HB5.out nd
          clear q3 q1
          generalize w5.drewN nd = w6 at *
          go_wp2_with ((go_at_call 36; go_in))
          go_roundg (N - (k + 1))
          case measure => have := HG.out; omega
          case rel => exact ⟨k + 1, by omega, rfl, by go_num, HB6⟩
      · have hlt' : ¬ (k : Int) < (N : Int) := by omega
        go_wp2
        go_ret2
        exact ⟨HB3.out.trans (HBW.out.mono HB3.out.size), _, rfl, OwnB.below HO3.out HBW.out⟩
end Go.Proofs.YtnpnaglgllcpfaaGreat
