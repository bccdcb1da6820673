/-
  What the document's Pack answers of pieces in memory, and the texts of bits that it goes by.
-/
import Derived.Test.YtnpnaglgllcpfaaSumR
import Derived.Test.YtnpnaglgllcpfaaPk
import Derived.Test.YtnpnaglgllcpfaaMake
import Derived.Laws.IdiomStrings
namespace Go.Proofs.Ytnpnaglgllcpfaa
set_option maxRecDepth 100000
open Go.RowKit

theorem text_len (L : List Bool) : (text L).size = L.length := by simp [text, chars, ByteArray.size]
theorem text_snoc (L : List Bool) : text L ++ (⟨#[48]⟩ : ByteArray) = text (L ++ [false]) := by
  apply ByteArray.ext
  simp [text, chars]
theorem text_get (L : List Bool) (i : Nat) (h : i < (text L).size) (h' : i < L.length) : (((text L)[i]'h).toNat : Int) = 48 + (L[i].toNat : Int) := by
  have : (text L)[i]'h = if L[i] then 49 else 48 := by
    show (chars L).toArray[i]'_ = _
    simp [chars]
  rw [this]
  cases L[i] <;> rfl

set_option maxHeartbeats 400000 in
theorem frame_calls (a pa : Option Addr) (ts : List Tok) (piece : List UInt8) (cap pcap : Nat) (w : World) (hn : ts.length ≤ 64) (hpc : piece.length ≤ 64) (ht : ToksAt w a ts) (hpa : BytesAt w pa piece) (hpb : ∀ b off, pa = some ⟨b, off, none⟩ → b < w.heap.size) (hp : ∀ t ∈ ts, Tok.plainB t ∧ Tok.cost t ≤ 31) :
    Calls Try.prog 75 #[.slice a ts.length cap, .slice pa piece.length pcap] w fun e w' => e = .returned (.string (text (frameBits ts piece))) ∧ Below w.heap.size w w' := by
  have HT : Hid (ToksAt w a ts) := ht
  have HPA : Hid (BytesAt w pa piece) := hpa
  have HPB : Hid (∀ b off, pa = some ⟨b, off, none⟩ → b < w.heap.size) := hpb
  have HP : Hid (∀ t ∈ ts, Tok.plainB t ∧ Tok.cost t ≤ 31) := hp
  have hnb := numBits_short (piece.length + 1) (by omega)
  have htr := total_range piece
  clear ht hpa hpb hp
  go_enter Try.func75, Try.ntmps75
  go_wp2_with fail
  refine (number_calls _ _ (by omega) (by omega)).mono ?_
  rintro e w0 ⟨rfl, rfl⟩
  rw [show ((piece.length : Int) + 1).toNat = piece.length + 1 by omega]
  go_wp2_with fail
  go_loopw [5, 6] (fun s i wr => ∃ (k : Nat), k ≤ ts.length ∧ i = .int .i64 k ∧ s = .string (text (numBits (piece.length + 1) ++ bitsOf (ts.take k))) ∧ Below w0.heap.size w0 wr) (fun _ i _ => ts.length - (intOf i).toNat)
  case atStart => exact ⟨0, Nat.zero_le _, rfl, by simp [bitsOf], Below.refl _ _⟩
  case round =>
    obtain ⟨k, hk, rfl, rfl, hb⟩ := hrel
    have hlen : (text (numBits (piece.length + 1) ++ bitsOf (ts.take k))).size ≤ 15 + 31 * 64 := by
      rw [text_len, List.length_append, bitsOf_length]
      have := Tok.costs_le (ts.take k) fun t ht => HP.out t (List.mem_of_mem_take ht)
      rw [List.length_take] at this; omega
    by_cases hlt : k < ts.length
    · obtain ⟨b, off, ha, hbl, hcell⟩ : ∃ b off, a = some ⟨b, off, none⟩ ∧ b < wr.heap.size ∧ ∀ i (hi : i < ts.length),
          wr.cell? ⟨b, off + i * 3, none⟩ = some (.int .i64 ts[i].len) ∧ wr.cell? ⟨b, off + i * 3 + 1, none⟩ = some (.int .i64 ts[i].dist) ∧ wr.cell? ⟨b, off + i * 3 + 2, none⟩ = some (.int .i64 ts[i].byte) := by
        rcases HT.out.below hb with h | h
        · rw [h] at hlt; simp at hlt
        · exact h
      subst ha
      obtain ⟨c0, c1, c2⟩ := hcell k hlt
      clear hcell
      have hpl := HP.out ts[k] (List.getElem_mem hlt)
      have HC : Hid (text (numBits (piece.length + 1) ++ bitsOf (ts.take k)) ++ text (Tok.bits ts[k]) = text (numBits (piece.length + 1) ++ bitsOf (ts.take (k + 1)))) := by
        show _ = _
        rw [Tok.take_snoc ts k hlt, bitsOf_snoc, ← List.append_assoc, ← text_append]
      have hsz : (text (Tok.bits ts[k])).size ≤ 31 := by rw [text_len, Tok.bits_length]; exact hpl.2
      generalize ts[k] = t at *
      obtain ⟨l, d, x⟩ := t
      simp only at c0 c1 c2
      have HPL : Hid (Tok.plainB ⟨l, d, x⟩) := hpl.1
      clear hpl
      generalize text (numBits (piece.length + 1) ++ bitsOf (ts.take k)) = s at *
      go_wp2_with fail
      refine (bits_calls l d x _ HPL.out).mono ?_
      rintro e w1 ⟨rfl, hb1⟩
      have hbw : Below w0.heap.size w0 w1 := hb.trans (hb1.mono hb.size)
      generalize text (Tok.bits ⟨l, d, x⟩) = s' at *
      clear hb1
      go_wp2
      go_roundw
      case rel => exact ⟨k + 1, by omega, by go_num, by rw [← HC.out], hbw⟩
      case measure => simp [intOf]; omega
    · have hke : k = ts.length := by omega
      have e1 : bitsOf (ts.take k) = bitsOf ts := by rw [hke, List.take_length]
      rw [e1] at hlen ⊢
      clear hke e1
      rw [text_len] at hlen
      generalize hL : numBits (piece.length + 1) ++ bitsOf ts = L at *
      have HL : Hid _ := hL
      clear hL
      have hs := hb.size
      have HB2 : Hid (BytesAt wr pa piece) := by
        rcases HPA.out with h | ⟨b, off, h1, h⟩
        · exact .inl h
        · exact .inr ⟨b, off, h1, fun i hi => by rw [hb.cell (p := ⟨b, _, none⟩) (HPB.out b off h1)]; exact h i hi⟩
      go_wp2_with fail
      go_loopg [5] (padN L.length) (fun g s wq => ∃ (L' : List Bool), g = padN L'.length ∧ L'.length ≤ 2010 - g ∧ Hid (fill L' = fill L) ∧ s = .string (text L') ∧ wq = wr)
      case atStart => exact ⟨L, rfl, by unfold padN; omega, rfl, rfl, rfl⟩
      case round =>
        obtain ⟨L', hg, hll, hf, rfl, rfl⟩ := hrel
        have hsz : (text L').size = L'.length := text_len L'
        have hgl : gk < 8 := by rw [hg]; unfold padN; omega
        by_cases h0 : L'.length % 8 = 0
        · have HE : Hid (L' = fill L) := by rw [← hf.out]; exact (fill_full L' h0).symm
          have hz0 : (((text L').size : Int) % 8 != 0) = false := by rw [hsz]; simp; omega
          have HFR : Hid (text L' ++ text (bin (Plain.total piece % 256).toNat 8) ++ text (bin (Plain.total piece / 256).toNat 8) = text (frameBits ts piece)) := by
            show _ = _
            rw [HE.out, ← text_append, ← text_append]
            unfold frameBits
            rw [HL.out, List.append_assoc]
          have hs1 : (text L').size ≤ 2010 := by rw [hsz]; omega
          have z1 : (text (bin (Plain.total piece % 256).toNat 8)).size = 8 := text_size _ _
          have z2 : (text (bin (Plain.total piece / 256).toNat 8)).size = 8 := text_size _ _
          clear hsz h0 hg
          generalize text L' = s at *
          go_wp2_with fail
          refine (refSum_calls pa piece pcap _ (by omega) HB2.out).mono ?_
          rintro e w2 ⟨rfl, rfl⟩
          generalize Plain.total piece = S at *
          go_wp2_with fail
          refine (binary_calls _ _ _ (by omega) (by omega) (by omega) (by omega)).mono ?_
          rintro e w3 ⟨rfl, rfl⟩
          rw [show ((8 : Int).toNat = 8) from rfl]
          generalize text (bin (S % 256).toNat 8) = s1 at *
          go_wp2_with fail
          refine (binary_calls _ _ _ (by omega) (by omega) (by omega) (by omega)).mono ?_
          rintro e w4 ⟨rfl, rfl⟩
          rw [show ((8 : Int).toNat = 8) from rfl]
          generalize text (bin (S / 256).toNat 8) = s2 at *
          go_wp2_with fail
          go_ret
          exact ⟨ret_str HFR.out, hb⟩
        · have hgg : Hid (padN (L' ++ [false]).length < gk) := by rw [hg]; show _ < _; simp only [List.length_append, List.length_cons, List.length_nil]; unfold padN; omega
          have hgl2 : L'.length + 1 ≤ 2010 - padN (L' ++ [false]).length := by have := hgg.out; omega
          have HF : Hid (fill (L' ++ [false]) = fill L) := by show _ = _; rw [← fill_more L' h0]; exact hf.out
          have hz0 : (((text L').size : Int) % 8 != 0) = true := by rw [hsz]; simp; omega
          have HS : Hid (text L' ++ (⟨#[48]⟩ : ByteArray) = text (L' ++ [false])) := text_snoc L'
          have hs1 : (text L').size ≤ 2010 := by rw [hsz]; omega
          have HG : Hid _ := hg
          clear hg hsz
          generalize text L' = s at *
          go_wp2
          go_roundg (padN (L' ++ [false]).length)
          case measure => exact hgg.out
          case rel => exact ⟨L' ++ [false], rfl, by simp at hgl2 ⊢; omega, HF, by rw [← HS.out], rfl⟩
end Go.Proofs.Ytnpnaglgllcpfaa
