/-
  What Compress answers.
-/
import Derived.Test.YtnpnaglgllcpfabPsd
namespace Go.Proofs.Ytnpnaglgllcpfab
set_option maxRecDepth 100000
open Go.RowKit

theorem parse_facts (p : List UInt8) (hp : p.length ≤ 64) : made (parseOf p) = p ∧ (parseOf p).length ≤ 64 ∧ ∀ t ∈ parseOf p, Tok.plainB t ∧ Tok.cost t ≤ 31 := by
  obtain ⟨h1, h2, _⟩ := chosen_made parse_chosen p hp
  obtain ⟨out, g1, _, g3, g4, g5⟩ := ok_facts (Tok.okB_some h1)
  exact ⟨h2, by omega, g5⟩
set_option maxHeartbeats 1000000 in
theorem writePiece_calls (q B : Nat) (v : Value) (L : List Bool) (pa : Option Addr) (piece : List UInt8) (pcap : Nat) (w : World) (h : WrAt w q B v L) (hB : B ≤ w.heap.size) (hl : L.length ≤ 6000000) (hfull : L.length % 8 = 0) (hpc : piece.length ≤ 64)
    (hpa : BytesAt w pa piece) (hpne : ∀ b off, pa = some ⟨b, off, none⟩ → b < w.heap.size ∧ b ≠ q ∧ v.ownBlock ≠ some b) :
    Calls Try.prog 33 #[.pointer (some ⟨q, 0, none⟩), .slice pa piece.length pcap] w fun e w' => e = .returned (.tuple #[]) ∧ WrDone w w' q B v (L ++ frameBits (parseOf piece) piece) := by
  have HW : Hid (WrAt w q B v L) := h
  have HPA : Hid (BytesAt w pa piece) := hpa
  have HPNE : Hid (∀ b off, pa = some ⟨b, off, none⟩ → b < w.heap.size ∧ b ≠ q ∧ v.ownBlock ≠ some b) := hpne
  have hq := h.lt
  have HOL : Hid (∀ k, v.ownBlock = some k → k < w.heap.size) := h.ownlt
  clear h hpa hpne
  go_enter Try.func33, Try.ntmps33
  go_wp2_with fail
  refine (parse_said pa piece pcap w (by omega) HPA.out).mono ?_
  rintro e w1 ⟨hb1, ⟨h64, _⟩ | ⟨_, tv, rfl, hrow⟩⟩
  · omega
  obtain ⟨ta, tc, rfl⟩ := TokRow.form hrow
  obtain ⟨f1, f2, f3⟩ := parse_facts piece hpc
  have HF3 : Hid _ := f3
  have hs1 := hb1.size
  have HB1 : Hid (Below w.heap.size w w1) := hb1
  have HT : Hid (ToksAt w1 ta (parseOf piece)) := TokRow.toks hrow
  have HNE : Hid (∀ b off, ta = some ⟨b, off, none⟩ → b < w1.heap.size ∧ b ≠ q ∧ v.ownBlock ≠ some b) := fun b off e => by
    have hx := World.ownsRow.lt hrow
    rcases hrow.2 with ⟨h1, _⟩ | ⟨g, cap, cur, h1, hg, _⟩
    · simp at h1
      rw [h1.1] at e
      cases e
    · simp at h1
      rw [h1.1] at e
      simp at e
      have h2 := hx g (by simp [Value.ownBlock, h1.1])
      refine ⟨by omega, by omega, fun e' => ?_⟩
      have := HOL.out b e'
      omega
  have HPNE1 : Hid (∀ b off, pa = some ⟨b, off, none⟩ → b < w1.heap.size ∧ b ≠ q ∧ v.ownBlock ≠ some b) := fun b off e => by
    have := HPNE.out b off e
    exact ⟨by omega, this.2⟩
  have HW1 : Hid (WrAt w1 q B v L) := WrAt.below HW.out hb1
  clear hb1 hrow f1 f3
  generalize hts : parseOf piece = ts at *
  have HTS : Hid (parseOf piece = ts) := hts
  clear hts
  go_wp2_with fail
  refine (writeFrame_calls q B v L pa ta piece ts pcap tc w1 HW1.out (by omega) hl hfull f2 hpc (bytesAt_below2 HPA.out HB1.out) HPNE1.out HT.out HNE.out HF3.out).mono ?_
  rintro e w2 ⟨rfl, v2, hw2, hk2⟩
  have HD : Hid (WrDone w w2 q B v (L ++ frameBits (parseOf piece) piece)) := ⟨v2, by rw [HTS.out]; exact hw2, (WrKept.ofBelow HB1.out).trans hk2⟩
  clear hw2 hk2
  go_wp2
  go_end0
  exact ⟨rfl, HD.out⟩
set_option maxHeartbeats 2000000 in
theorem compress_said : CompressSaid parseOf := by
  intro a data cap w hl hcap hb
  have HB : Hid (BytesAt w a data) := hb
  clear hb
  go_enter Try.func11, Try.ntmps11
  by_cases hlong : 2048 < data.length
  · have h1 : (2048 : Int) < (data.length : Int) := by omega
    go_wp2
    go_ret2
    exact ⟨Below.refl _ _, .inl ⟨hlong, _, _, rfl⟩⟩
  · have h1 : ¬ (2048 : Int) < (data.length : Int) := by omega
    have hd : data.length ≤ 2048 := by omega
    have hn1 : 64 * cutN data ≤ data.length + 63 := by unfold cutN; omega
    have hn2 : data.length ≤ 64 * cutN data := by unfold cutN; omega
    have HCN : Hid ((toksOf parseOf data).length = cutN data) := toksOf_length _ _
    clear hlong
    go_wp2_with fail
    refine (writeBegin_calls w.heap.size w.heap.size (.slice none 0 0) _ (wr_new w) (by simp)).mono ?_
    rintro e w1 ⟨rfl, v1, hw1, hk1⟩
    have HB1 : Hid (Below w.heap.size w w1) := ((Below.refl _ _).alloc (Nat.le_refl _) _).trans (hk1.below (Nat.le_refl _) (by simp) (fun k h => by simp [Value.ownBlock] at h))
    have HW1 : Hid (WrAt w1 w.heap.size w.heap.size v1 magicBits) := hw1
    clear hw1 hk1
    go_wp2_with fail
    generalize hNN : cutN data = N at *
    have HNN : Hid (cutN data = N) := hNN
    clear hNN
    go_loopg [5] N (fun g iv wr => ∃ (k K : Nat) (v' : Value), k ≤ N ∧ g = N - k ∧ K = 64 * k ∧ iv = .int .i64 K ∧ Hid (WrAt wr w.heap.size w.heap.size v' (magicBits ++ frames (toksOf parseOf data) k)) ∧ Hid (Below w.heap.size w wr))
    case atStart => exact ⟨0, 0, v1, by omega, rfl, rfl, rfl, by show WrAt _ _ _ _ _; simpa [frames] using HW1.out, HB1⟩
    case round =>
      clear HW1 HB1
      obtain ⟨k, K, v', hk, hg, hK, rfl, HW, HBW⟩ := hrel
      have HG : Hid (gk = N - k) := hg
      have hs := HBW.out.size
      have hfs := frames_chosen parse_chosen data k (by rw [HCN.out]; exact hk)
      have HFL : Hid ((magicBits ++ frames (toksOf parseOf data) k).length % 8 = 0) := by show _ = _; rw [List.length_append, magic_length]; have := frames_full (toksOf parseOf data) k; omega
      have HOB : Hid (∀ k, v'.ownBlock = some k → w.heap.size ≤ k) := fun k h => (World.ownsRow.lt HW.out.own k h).1
      clear hg
      by_cases hlt : k < N
      · obtain ⟨b, off, ha, hbl, hcell⟩ : ∃ b off, a = some ⟨b, off, none⟩ ∧ b < w.heap.size ∧ ∀ j, j < data.length → wr.cell? ⟨b, off + j, none⟩ = some (.int .u8 (data.getD j 0).toNat) := by
          rcases HB.out with h | ⟨b, off, h1, h2⟩
          · exfalso
            rw [h] at hn1
            simp at hn1
            omega
          · have hbl : b < w.heap.size := World.block_lt_of_cell? w _ (h2 0 (by omega))
            exact ⟨b, off, h1, hbl, fun j hj => by rw [HBW.out.cell (p := ⟨b, _, none⟩) hbl]; exact h2 j hj⟩
        subst ha
        have HPT : Hid (BytesAt wr (some ⟨b, off + K, none⟩) (pieceAt data k)) := by rw [hK]; exact BytesAt.part hcell (64 * k) 64
        have hpl := pieceAt_length data k
        have hple := piece_le data k
        have HFS : Hid (frames (toksOf parseOf data) (k + 1) = frames (toksOf parseOf data) k ++ frameBits (parseOf (pieceAt data k)) (pieceAt data k)) := by
          show _ = _
          rw [frames_succ _ k (by rw [HCN.out]; exact hlt), toksOf_getD parseOf data k (by rw [HNN.out]; exact hlt), (parse_facts _ hple).1]
        have HWP : Hid (∀ pcap, Calls Try.prog 33 #[.pointer (some ⟨w.heap.size, 0, none⟩), .slice (some ⟨b, off + K, none⟩) (pieceAt data k).length pcap] wr fun e w' => e = .returned (.tuple #[]) ∧ WrDone wr w' w.heap.size w.heap.size v' (magicBits ++ frames (toksOf parseOf data) (k + 1))) := fun pcap => by
          have := writePiece_calls w.heap.size w.heap.size v' (magicBits ++ frames (toksOf parseOf data) k) (some ⟨b, off + K, none⟩) (pieceAt data k) pcap wr HW.out hs (by rw [List.length_append, magic_length]; omega) HFL.out hple HPT.out (fun b' off' e => by
            simp at e
            refine ⟨by omega, by omega, fun h => ?_⟩
            have := HOB.out b' h
            omega)
          rw [List.append_assoc, ← HFS.out] at this
          exact this
        have hKd : (K : Int) < (data.length : Int) := by omega
        clear hcell
        by_cases hto : data.length < K + 64
        · have hto' : (data.length : Int) < (K : Int) + 64 := by omega
          have hTK : (pieceAt data k).length = data.length - K := by omega
          rw [hTK] at HWP
          have hb1 : (0 : Int) ≤ (K : Int) ∧ (K : Int) ≤ (data.length : Int) ∧ (data.length : Int) ≤ (cap : Int) := by omega
          have hb2 : ¬ (cap : Int) < (data.length : Int) := by omega
          have hb3 : ¬ (data.length : Int) < (K : Int) := by omega
          have hcK : ¬ cap = K := by omega
          have HKK : Hid (K = 64 * k) := hK
          clear hK hTK hpl
          go_wp2_with fail
          refine (HWP.out _).mono ?_
          rintro e w4 ⟨rfl, v4, hw4, hk4⟩
          have HB4 : Hid (Below w.heap.size w w4) := HBW.out.trans (hk4.below (Nat.le_refl _) hs HOB.out)
          have HW4 : Hid _ := hw4
          clear hw4 hk4 HWP
          go_wp2
          go_roundg (N - (k + 1))
          case measure => have := HG.out; omega
          case rel => exact ⟨k + 1, K + 64, v4, by omega, rfl, by have := HKK.out; omega, by go_num, HW4, HB4⟩
        · have hto' : ¬ (data.length : Int) < (K : Int) + 64 := by omega
          have hTK : (pieceAt data k).length = 64 := by omega
          rw [hTK] at HWP
          have hb1 : (0 : Int) ≤ (K : Int) ∧ (K : Int) ≤ (K : Int) + 64 ∧ (K : Int) + 64 ≤ (cap : Int) := by omega
          have hb2 : ¬ (cap : Int) < (K : Int) + 64 := by omega
          have hb3 : ¬ (K : Int) + 64 < (K : Int) := by omega
          have hcK : ¬ cap = K := by omega
          have HKK : Hid (K = 64 * k) := hK
          clear hK hTK hpl
          go_wp2_with fail
          refine (HWP.out _).mono ?_
          rintro e w4 ⟨rfl, v4, hw4, hk4⟩
          have HB4 : Hid (Below w.heap.size w w4) := HBW.out.trans (hk4.below (Nat.le_refl _) hs HOB.out)
          have HW4 : Hid _ := hw4
          clear hw4 hk4 HWP
          go_wp2
          go_roundg (N - (k + 1))
          case measure => have := HG.out; omega
          case rel => exact ⟨k + 1, K + 64, v4, by omega, rfl, by have := HKK.out; omega, by go_num, HW4, HB4⟩
      · have hKd : ¬ (K : Int) < (data.length : Int) := by omega
        have hke : k = N := by omega
        go_wp2_with fail
        refine (writeEnd_calls w.heap.size w.heap.size v' _ _ HW.out hs (by rw [List.length_append, magic_length]; omega) HFL.out).mono ?_
        rintro e w4 ⟨rfl, v4, hw4, hk4⟩
        have HB4 : Hid (Below w.heap.size w w4) := HBW.out.trans (hk4.below (Nat.le_refl _) hs HOB.out)
        have HW4 : Hid (WrAt w4 w.heap.size w.heap.size v4 (magicBits ++ frames (toksOf parseOf data) k ++ endBits)) := hw4
        clear hw4 hk4
        go_wp2_with fail
        refine (bytes_calls _ _ _ _ _ HW4.out).mono ?_
        rintro e w5 ⟨rfl, rfl⟩
        go_wp2
        go_ret2
        refine ⟨HB4.out, .inr ⟨hd, v4, rfl, ?_⟩⟩
        unfold streamOf streamBits
        rw [HCN.out, ← hke]
        exact HW4.out.own
end Go.Proofs.Ytnpnaglgllcpfab
