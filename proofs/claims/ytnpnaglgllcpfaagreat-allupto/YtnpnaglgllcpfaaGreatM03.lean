/-
  Lemmas for the law All: Wr3, Pk.
-/
import Derived.Test.YtnpnaglgllcpfaaGreatM02
/- What the program's functions lay down with a Writer: tokens, a frame, a stream's beginning and end. -/
namespace Go.Proofs.YtnpnaglgllcpfaaGreat
set_option maxRecDepth 100000
open Go.RowKit

theorem WrDone.alloc0 {w w' : World} {o : Obj} {q B : Nat} {v : Value} {L : List Bool} (h : WrDone (w.alloc o) w' q B v L) : WrDone w w' q B v L := by
  obtain ⟨v', ha, hk⟩ := h
  refine ⟨v', ha, hk.os, hk.tape, hk.output, by have := hk.size; simp at this; omega, fun k h1 h2 h3 => ?_, fun k h1 => ?_⟩
  · rw [hk.heap k (by simp; omega) h2 h3, Below.heap_alloc w o k h1]
  · rcases hk.moved k h1 with h | h
    · exact .inl h
    · exact .inr (by simp at h; omega)
theorem WrAt.ownlt {w : World} {q B : Nat} {v : Value} {L : List Bool} (h : WrAt w q B v L) : ∀ k, v.ownBlock = some k → k < w.heap.size := fun k hk => (World.ownsRow.lt h.own k hk).2
theorem WrKept.cell {w w' : World} {q : Nat} {v v' : Value} (h : WrKept w w' q v v') {k o : Nat} (hk : k < w.heap.size) (hq : k ≠ q) (hv : v.ownBlock ≠ some k) : w'.cell? ⟨k, o, none⟩ = w.cell? ⟨k, o, none⟩ :=
  World.cell?_of_block (h.heap k hk hq hv)

set_option maxHeartbeats 400000 in
theorem writeOne_calls (q B : Nat) (v : Value) (L : List Bool) (l d x : Int) (w : World) (h : WrAt w q B v L) (hB : B ≤ w.heap.size) (hl : L.length ≤ 8000000) (hp : Tok.plainB ⟨l, d, x⟩) :
    Calls Tryz.prog 115 #[.pointer (some ⟨q, 0, none⟩), .agg #[.int .i64 l, .int .i64 d, .int .i64 x]] w fun e w' => e = .returned (.tuple #[]) ∧ WrDone w w' q B v (L ++ Tok.bits ⟨l, d, x⟩) := by
  have HW : Hid (WrAt (w.alloc (.cells #[.int .i64 l, .int .i64 d, .int .i64 x] 42)) q B v L) := h.alloc _
  have hq := h.lt
  have hv := h.ownlt
  have hnw : v.ownBlock ≠ some w.heap.size := fun e => by have := hv _ e; omega
  have HNW : Hid (v.ownBlock ≠ some w.heap.size) := hnw
  clear h hv hnw
  have hqn : w.heap.size ≠ q := by omega
  unfold Tok.plainB at hp
  simp only at hp
  rcases hp with ⟨h, a1, a2⟩ | ⟨a1, a2, a3, a4⟩
  · have hd : (d == 0) = true := by simpa using h
    have HC : Hid (Tok.bits ⟨l, d, x⟩ = [false] ++ bin x.toNat 8) := by unfold Tok.bits; exact if_pos h
    clear h
    go_enter Tryz.func115, Tryz.ntmps115
    go_wp2_with fail
    refine (bit_calls q B v L 0 _ HW.out (by simp; omega) (by omega) (by omega) (by omega)).mono ?_
    rintro e w1 ⟨rfl, v1, hw1, hk1⟩
    have HW1 : Hid (WrAt w1 q B v1 (L ++ [false])) := hw1
    have HK1 : Hid _ := hk1
    have hs1 : w.heap.size + 1 ≤ w1.heap.size := by have := hk1.size; simpa using this
    have x2 : w1.cell? ⟨w.heap.size, 2, none⟩ = some (.int .i64 x) := by rw [hk1.cell (by simp) hqn HNW.out]; simp
    clear hw1 hk1
    go_wp2_with fail
    refine (byte_calls q B v1 (L ++ [false]) x _ HW1.out (by omega) (by simp; omega) (by omega) (by omega)).mono ?_
    rintro e w2 ⟨rfl, v2, hw2, hk2⟩
    have HD : Hid (WrDone w w2 q B v (L ++ Tok.bits ⟨l, d, x⟩)) := by
      refine WrDone.alloc0 ⟨v2, ?_, HK1.out.trans hk2⟩
      rw [HC.out, ← List.append_assoc]; exact hw2
    clear hw2 hk2
    go_wp2
    go_returns
    exact ⟨rfl, HD.out⟩
  · obtain ⟨M, rfl⟩ : ∃ M : Nat, l = (M : Int) + 1 := ⟨(l - 1).toNat, by omega⟩
    obtain ⟨D, rfl⟩ : ∃ D : Nat, d = (D : Int) := ⟨d.toNat, by omega⟩
    have hd : ((D : Int) == 0) = false := by simp; omega
    have HC : Hid (Tok.bits ⟨(M : Int) + 1, D, x⟩ = [true] ++ (numBits M ++ numBits D)) := by
      unfold Tok.bits
      refine (if_neg (show ¬ (D : Int) = 0 by omega)).trans ?_
      simp
    have hM : (numBits M).length ≤ 15 := by
      have := Tok.log2_le_self M (by omega)
      simp [numBits_length, Tok.numLen]; omega
    go_enter Tryz.func115, Tryz.ntmps115
    go_wp2_with fail
    refine (bit_calls q B v L 1 _ HW.out (by simp; omega) (by omega) (by omega) (by omega)).mono ?_
    rintro e w1 ⟨rfl, v1, hw1, hk1⟩
    have HW1 : Hid (WrAt w1 q B v1 (L ++ [true])) := hw1
    have HK1 : Hid _ := hk1
    have hs1 : w.heap.size + 1 ≤ w1.heap.size := by have := hk1.size; simpa using this
    have x0 : w1.cell? ⟨w.heap.size, 0, none⟩ = some (.int .i64 ((M : Int) + 1)) := by rw [hk1.cell (by simp) hqn HNW.out]; simp
    have x1 : Hid (w1.cell? ⟨w.heap.size, 1, none⟩ = some (.int .i64 D)) := by show _ = _; rw [hk1.cell (by simp) hqn HNW.out]; simp
    have hn1 : Hid (v1.ownBlock ≠ some w.heap.size) := fun e => by
      rcases hk1.moved _ e with h | h
      · exact HNW.out h
      · simp at h; omega
    clear hw1 hk1
    go_wp2_with fail
    refine (wnumber_calls q B v1 (L ++ [true]) _ _ HW1.out (by omega) (by simp; omega) (by omega) (by omega)).mono ?_
    rintro e w2 ⟨rfl, v2, hw2, hk2⟩
    rw [Int.toNat_natCast] at hw2
    have HW2 : Hid (WrAt w2 q B v2 (L ++ [true] ++ numBits M)) := hw2
    have HK2 : Hid _ := hk2
    have hs2 : w1.heap.size ≤ w2.heap.size := hk2.size
    have y1 : w2.cell? ⟨w.heap.size, 1, none⟩ = some (.int .i64 D) := by rw [hk2.cell (by omega) hqn hn1.out]; exact x1.out
    clear hw2 hk2 x0
    go_wp2_with fail
    refine (wnumber_calls q B v2 (L ++ [true] ++ numBits M) _ _ HW2.out (by omega) (by simp; omega) (by omega) (by omega)).mono ?_
    rintro e w3 ⟨rfl, v3, hw3, hk3⟩
    rw [Int.toNat_natCast] at hw3
    have HD : Hid (WrDone w w3 q B v (L ++ Tok.bits ⟨(M : Int) + 1, D, x⟩)) := by
      refine WrDone.alloc0 ⟨v3, ?_, (HK1.out.trans HK2.out).trans hk3⟩
      rw [HC.out, ← List.append_assoc, ← List.append_assoc]; exact hw3
    clear hw3 hk3
    go_wp2
    go_end0
    exact ⟨rfl, HD.out⟩

/-- The bits of some tokens. -/
def bitsOf (ts : List Tok) : List Bool := ts.flatMap Tok.bits
theorem bitsOf_snoc (ts : List Tok) (t : Tok) : bitsOf (ts ++ [t]) = bitsOf ts ++ Tok.bits t := by simp [bitsOf]
theorem bitsOf_length : ∀ ts, (bitsOf ts).length = Tok.costs ts
  | [] => rfl
  | t :: ts => by
    have := bitsOf_length ts
    simp only [bitsOf, Tok.costs, List.flatMap_cons, List.length_append, List.map_cons, List.sum_cons, Tok.bits_length] at *
    omega

set_option maxHeartbeats 400000 in
theorem write_calls (q B : Nat) (v : Value) (L : List Bool) (a : Option Addr) (ts : List Tok) (cap : Nat) (w : World) (h : WrAt w q B v L) (hB : B ≤ w.heap.size) (hl : L.length ≤ 7000000) (hn : ts.length ≤ 64)
    (ht : ToksAt w a ts) (hne : ∀ b off, a = some ⟨b, off, none⟩ → b ≠ q ∧ v.ownBlock ≠ some b) (hp : ∀ t ∈ ts, Tok.plainB t ∧ Tok.cost t ≤ 31) :
    Calls Tryz.prog 94 #[.pointer (some ⟨q, 0, none⟩), .slice a ts.length cap] w fun e w' => e = .returned (.tuple #[]) ∧ WrDone w w' q B v (L ++ bitsOf ts) := by
  have HW : Hid (WrAt w q B v L) := h
  have HT : Hid (ToksAt w a ts) := ht
  have HNE : Hid (∀ b off, a = some ⟨b, off, none⟩ → b ≠ q ∧ v.ownBlock ≠ some b) := hne
  have HP : Hid (∀ t ∈ ts, Tok.plainB t ∧ Tok.cost t ≤ 31) := hp
  clear h ht hne hp
  go_enter Tryz.func94, Tryz.ntmps94
  go_wp2
  go_loopw [8] (fun i wr => ∃ (k : Nat) (v' : Value), k ≤ ts.length ∧ i = .int .i64 k ∧ Hid (WrAt wr q B v' (L ++ bitsOf (ts.take k))) ∧ WrKept w wr q v v') (fun i _ => ts.length - (intOf i).toNat)
  case atStart => exact ⟨0, v, Nat.zero_le _, rfl, by show WrAt _ _ _ _ _; simpa [bitsOf] using HW.out, WrKept.refl _ _ _⟩
  case round =>
    obtain ⟨k, v', hk, rfl, hw, hkp⟩ := hrel
    have hs := hkp.size
    by_cases hlt : k < ts.length
    · obtain ⟨b, off, ha, hbl, hcell⟩ : ∃ b off, a = some ⟨b, off, none⟩ ∧ b < w.heap.size ∧ ∀ i (hi : i < ts.length),
          w.cell? ⟨b, off + i * 3, none⟩ = some (.int .i64 ts[i].len) ∧ w.cell? ⟨b, off + i * 3 + 1, none⟩ = some (.int .i64 ts[i].dist) ∧ w.cell? ⟨b, off + i * 3 + 2, none⟩ = some (.int .i64 ts[i].byte) := by
        rcases HT.out with h | h
        · rw [h] at hlt; simp at hlt
        · exact h
      subst ha
      obtain ⟨c0, c1, c2⟩ := hcell k hlt
      obtain ⟨n1, n2⟩ := HNE.out b off rfl
      rw [← hkp.cell hbl n1 n2] at c0 c1 c2
      clear hcell n2
      have HC : Hid (bitsOf (ts.take (k + 1)) = bitsOf (ts.take k) ++ Tok.bits ts[k]) := by show _ = _; rw [Tok.take_snoc ts k hlt, bitsOf_snoc]
      have hpl := HP.out ts[k] (List.getElem_mem hlt)
      have hlen : (bitsOf (ts.take k)).length ≤ 31 * 64 := by
        rw [bitsOf_length]
        have := Tok.costs_le (ts.take k) fun t ht => HP.out t (List.mem_of_mem_take ht)
        rw [List.length_take] at this; omega
      generalize ts[k] = t at *
      obtain ⟨l, d, x⟩ := t
      simp only at c0 c1 c2
      have hpl1 := hpl.1
      have HPL : Hid (Tok.plainB ⟨l, d, x⟩) := hpl1
      clear hpl hpl1
      go_wp2_with fail
      refine (writeOne_calls q B v' (L ++ bitsOf (ts.take k)) l d x _ (WrAt.alloc hw.out _) (by simp; omega) (by simp; omega) HPL.out).mono ?_
      rintro e w1 ⟨rfl, hd⟩
      obtain ⟨v2, hw2, hk2⟩ := hd.alloc0
      rw [List.append_assoc, ← HC.out] at hw2
      have HW2 : Hid (WrAt w1 q B v2 (L ++ bitsOf (ts.take (k + 1)))) := hw2
      have hkk := hkp.trans hk2
      clear hw2 hk2 hkp hd c0 c1 c2
      go_wp2
      go_roundw
      case rel => exact ⟨k + 1, v2, by omega, by go_num, HW2, hkk⟩
      case measure => simp [intOf]; omega
    · have hke : k = ts.length := by omega
      have HD : Hid (WrDone w wr q B v (L ++ bitsOf ts)) := by
        have := hw.out
        rw [hke, List.take_length] at this
        exact ⟨v', this, hkp⟩
      clear hke hkp
      go_wp2
      go_end0
      exact ⟨rfl, HD.out⟩

/-- The bits of a frame. -/
def frameBits (ts : List Tok) (piece : List UInt8) : List Bool :=
  fill (numBits (piece.length + 1) ++ bitsOf ts) ++ (bin (Plain.total piece % 256).toNat 8 ++ bin (Plain.total piece / 256).toNat 8)
theorem frameBits_full (ts : List Tok) (piece : List UInt8) : (frameBits ts piece).length % 8 = 0 := by
  have := fill_length (numBits (piece.length + 1) ++ bitsOf ts)
  unfold frameBits
  simp only [List.length_append, bin_length] at *
  omega
theorem total_range (l : List UInt8) : 0 ≤ Plain.total l ∧ Plain.total l ≤ 65278 := by
  have := Plain.sum_range l
  unfold Plain.total
  omega
theorem numBits_short (n : Nat) (h : n < 256) : (numBits n).length ≤ 15 := by
  have := Tok.log2_le_self n h
  simp only [numBits_length, Tok.numLen]; omega
theorem fill_short (L : List Bool) : (fill L).length ≤ L.length + 7 := by
  simp only [fill, List.length_append, List.length_replicate, padN]; omega
theorem frameBits_short (ts : List Tok) (piece : List UInt8) (hn : ts.length ≤ 64) (hpc : piece.length ≤ 64) (hp : ∀ t ∈ ts, Tok.plainB t ∧ Tok.cost t ≤ 31) : (frameBits ts piece).length ≤ 2100 := by
  have h1 := fill_short (numBits (piece.length + 1) ++ bitsOf ts)
  have h2 := numBits_short (piece.length + 1) (by omega)
  have h3 := Tok.costs_le ts hp
  unfold frameBits
  simp only [List.length_append, bin_length, bitsOf_length] at *
  omega

theorem BytesAt.own {w : World} {B : Nat} {v : Value} {l : List UInt8} (h : OwnB w B v l) : ∃ a cap, v = .slice a l.length cap ∧ BytesAt w a l ∧ ∀ b off, a = some ⟨b, off, none⟩ → B ≤ b ∧ v.ownBlock = some b := by
  rcases Nat.eq_zero_or_pos l.length with h0 | h0
  · obtain ⟨ao, cp, rfl⟩ := h.form
    refine ⟨ao, cp, rfl, .inl (List.eq_nil_of_length_eq_zero h0), fun b off e => ?_⟩
    subst e
    exact ⟨(World.ownsRow.lt h b rfl).1, rfl⟩
  · obtain ⟨g, cp, rfl, hb, _, hc⟩ := h.at h0
    refine ⟨_, cp, rfl, .inr ⟨g, 0, rfl, fun i hi => by rw [Nat.zero_add]; exact hc i hi⟩, fun b off e => ?_⟩
    simp at e
    obtain ⟨rfl, _⟩ := e
    exact ⟨hb, rfl⟩
theorem BytesAt.kept {w w' : World} {q : Nat} {v v' : Value} {a : Option Addr} {l : List UInt8} (h : BytesAt w a l) (hk : WrKept w w' q v v') (hne : ∀ b off, a = some ⟨b, off, none⟩ → b ≠ q ∧ v.ownBlock ≠ some b) : BytesAt w' a l := by
  rcases h with h | ⟨b, off, rfl, h⟩
  · exact .inl h
  · rcases Nat.eq_zero_or_pos l.length with h0 | h0
    · exact .inl (List.eq_nil_of_length_eq_zero h0)
    · have hb := World.block_lt_of_cell? w _ (h 0 h0)
      obtain ⟨n1, n2⟩ := hne b off rfl
      exact .inr ⟨b, off, rfl, fun i hi => by rw [hk.cell hb n1 n2]; exact h i hi⟩
theorem ToksAt.kept {w w' : World} {q : Nat} {v v' : Value} {a : Option Addr} {ts : List Tok} (h : ToksAt w a ts) (hk : WrKept w w' q v v') (hne : ∀ b off, a = some ⟨b, off, none⟩ → b ≠ q ∧ v.ownBlock ≠ some b) : ToksAt w' a ts := by
  rcases h with h | ⟨b, off, rfl, hlt, h⟩
  · exact .inl h
  · obtain ⟨n1, n2⟩ := hne b off rfl
    refine .inr ⟨b, off, rfl, Nat.lt_of_lt_of_le hlt hk.size, fun i hi => ?_⟩
    rw [hk.cell hlt n1 n2, hk.cell hlt n1 n2, hk.cell hlt n1 n2]
    exact h i hi
theorem WrKept.apart {w w' : World} {q : Nat} {v v' : Value} {b : Nat} (hk : WrKept w w' q v v') (h : b ≠ q ∧ v.ownBlock ≠ some b) (hb : b < w.heap.size) : b ≠ q ∧ v'.ownBlock ≠ some b :=
  ⟨h.1, fun e => by rcases hk.moved b e with h' | h'; exact h.2 h'; omega⟩

set_option maxHeartbeats 400000 in
theorem writeFrame_calls (q B : Nat) (v : Value) (L : List Bool) (pa a : Option Addr) (piece : List UInt8) (ts : List Tok) (pcap cap : Nat) (w : World) (h : WrAt w q B v L) (hB : B ≤ w.heap.size) (hl : L.length ≤ 6000000) (hfull : L.length % 8 = 0) (hn : ts.length ≤ 64) (hpc : piece.length ≤ 64)
    (hpa : BytesAt w pa piece) (hpne : ∀ b off, pa = some ⟨b, off, none⟩ → b < w.heap.size ∧ b ≠ q ∧ v.ownBlock ≠ some b)
    (ht : ToksAt w a ts) (hne : ∀ b off, a = some ⟨b, off, none⟩ → b < w.heap.size ∧ b ≠ q ∧ v.ownBlock ≠ some b) (hp : ∀ t ∈ ts, Tok.plainB t ∧ Tok.cost t ≤ 31) :
    Calls Tryz.prog 66 #[.pointer (some ⟨q, 0, none⟩), .slice pa piece.length pcap, .slice a ts.length cap] w fun e w' => e = .returned (.tuple #[]) ∧ WrDone w w' q B v (L ++ frameBits ts piece) := by
  have HW : Hid (WrAt w q B v L) := h
  have HPA : Hid (BytesAt w pa piece) := hpa
  have HPNE : Hid (∀ b off, pa = some ⟨b, off, none⟩ → b < w.heap.size ∧ b ≠ q ∧ v.ownBlock ≠ some b) := hpne
  have HT : Hid (ToksAt w a ts) := ht
  have HNE : Hid (∀ b off, a = some ⟨b, off, none⟩ → b < w.heap.size ∧ b ≠ q ∧ v.ownBlock ≠ some b) := hne
  have HP : Hid (∀ t ∈ ts, Tok.plainB t ∧ Tok.cost t ≤ 31) := hp
  have hnb := numBits_short (piece.length + 1) (by omega)
  have hbl : (bitsOf ts).length ≤ 31 * 64 := by rw [bitsOf_length]; have := Tok.costs_le ts hp; omega
  have htr := total_range piece
  have hfs := fill_short (L ++ (numBits (piece.length + 1) ++ bitsOf ts))
  simp only [List.length_append] at hfs
  have HFF : Hid (fill (L ++ (numBits (piece.length + 1) ++ bitsOf ts)) = L ++ fill (numBits (piece.length + 1) ++ bitsOf ts)) := fill_append L _ hfull
  clear h hpa hpne ht hne hp hfull
  go_enter Tryz.func66, Tryz.ntmps66
  go_wp2_with fail
  refine (wnumber_calls q B v L _ _ HW.out hB (by omega) (by omega) (by omega)).mono ?_
  rintro e w1 ⟨rfl, v1, hw1, hk1⟩
  rw [show ((piece.length : Int) + 1).toNat = piece.length + 1 by omega] at hw1
  have HW1 : Hid (WrAt w1 q B v1 (L ++ numBits (piece.length + 1))) := hw1
  have HK1 : Hid (WrKept w w1 q v v1) := hk1
  have hs1 := hk1.size
  clear hw1 hk1
  go_wp2_with fail
  refine (write_calls q B v1 (L ++ numBits (piece.length + 1)) a ts cap _ HW1.out (by omega) (by simp; omega) hn (HT.out.kept HK1.out fun b off e => (HNE.out b off e).2) (fun b off e => HK1.out.apart (HNE.out b off e).2 (HNE.out b off e).1) HP.out).mono ?_
  rintro e w2 ⟨rfl, v2, hw2, hk2⟩
  have HW2 : Hid (WrAt w2 q B v2 (L ++ numBits (piece.length + 1) ++ bitsOf ts)) := hw2
  have HK2 : Hid (WrKept w w2 q v v2) := HK1.out.trans hk2
  have hs2 : w.heap.size ≤ w2.heap.size := HK2.out.size
  clear hw2 hk2
  go_wp2_with fail
  refine (fill_calls q B v2 _ _ HW2.out (by omega) (by simp; omega)).mono ?_
  rintro e w3 ⟨rfl, v3, hw3, hk3⟩
  rw [List.append_assoc, HFF.out] at hw3
  have HW3 : Hid (WrAt w3 q B v3 (L ++ fill (numBits (piece.length + 1) ++ bitsOf ts))) := hw3
  have HK3 : Hid (WrKept w w3 q v v3) := HK2.out.trans hk3
  have hs3 : w.heap.size ≤ w3.heap.size := HK3.out.size
  have HB3 : Hid (BytesAt w3 pa piece) := HPA.out.kept HK3.out fun b off e => (HPNE.out b off e).2
  have hl3 : (L ++ fill (numBits (piece.length + 1) ++ bitsOf ts)).length ≤ 7000000 := by
    have := fill_short (numBits (piece.length + 1) ++ bitsOf ts)
    simp only [List.length_append] at *
    omega
  have HL3 : Hid ((L ++ fill (numBits (piece.length + 1) ++ bitsOf ts)).length ≤ 7000000) := hl3
  clear hw3 hk3 hfs hl3
  go_wp2_with fail
  refine (of_calls pa piece pcap _ (by omega) HB3.out).mono ?_
  rintro e w4 ⟨rfl, rfl⟩
  generalize hS : Plain.total piece = S at *
  have HS : Hid _ := hS
  clear hS
  go_wp2_with fail
  refine (byte_calls q B v3 _ _ _ HW3.out (by omega) (by have := HL3.out; omega) (by omega) (by omega)).mono ?_
  rintro e w5 ⟨rfl, v5, hw5, hk5⟩
  have HW5 : Hid (WrAt w5 q B v5 (L ++ fill (numBits (piece.length + 1) ++ bitsOf ts) ++ bin (S % 256).toNat 8)) := hw5
  have HK5 : Hid (WrKept w w5 q v v5) := HK3.out.trans hk5
  have hs5 : w.heap.size ≤ w5.heap.size := HK5.out.size
  clear hw5 hk5
  go_wp2_with fail
  refine (byte_calls q B v5 _ _ _ HW5.out (by omega) (by have := HL3.out; simp only [List.length_append, bin_length] at *; omega) (by omega) (by omega)).mono ?_
  rintro e w6 ⟨rfl, v6, hw6, hk6⟩
  have HD : Hid (WrDone w w6 q B v (L ++ frameBits ts piece)) := by
    refine ⟨v6, ?_, HK5.out.trans hk6⟩
    unfold frameBits
    rw [HS.out]
    simpa only [List.append_assoc] using hw6
  clear hw6 hk6
  go_wp2
  go_end0
  exact ⟨rfl, HD.out⟩
end Go.Proofs.YtnpnaglgllcpfaaGreat

/- What the program's Pack answers of pieces in memory. -/
namespace Go.Proofs.YtnpnaglgllcpfaaGreat
set_option maxRecDepth 100000
open Go.RowKit

def magicBits : List Bool := bin 80 8 ++ bin 90 8 ++ bin 49 8
def endBits : List Bool := [true] ++ List.replicate 7 false
/-- What a piece's tokens make. -/
def made (ts : List Tok) : List UInt8 := (Tok.expand [] ts).getD []
/-- May these tokens be piece k of n? -/
def okAt (n k : Nat) (ts : List Tok) : Bool := Tok.okB ts && (decide ((made ts).length = 64) || (decide (k + 1 = n) && decide (1 ≤ (made ts).length)))
def frames (ps : List (List Tok)) (k : Nat) : List Bool := (ps.take k).flatMap fun ts => frameBits ts (made ts)
theorem frames_succ (ps : List (List Tok)) (k : Nat) (h : k < ps.length) : frames ps (k + 1) = frames ps k ++ frameBits (ps.getD k []) (made (ps.getD k [])) := by
  unfold frames
  rw [List.take_succ_eq_append_getElem h, List.flatMap_append]
  congr 1
  simp [List.getD, h]
theorem frames_full (ps : List (List Tok)) : ∀ k, (frames ps k).length % 8 = 0
  | 0 => rfl
  | k + 1 => by
    rcases Nat.lt_or_ge k ps.length with h | h
    · rw [frames_succ ps k h, List.length_append]
      have h1 := frames_full ps k
      have h2 := frameBits_full (ps.getD k []) (made (ps.getD k []))
      omega
    · have := frames_full ps k
      unfold frames at *
      rwa [List.take_of_length_le (by omega), ← List.take_of_length_le (i := k) h]

/-- The pieces lie in memory, at a. -/
def PiecesAt (w : World) (a : Option Addr) (ps : List (List Tok)) : Prop :=
  ps = [] ∨ ∃ b off, a = some ⟨b, off, none⟩ ∧ b < w.heap.size ∧ ∀ i, i < ps.length → ∃ ai ci, w.cell? ⟨b, off + i, none⟩ = some (.slice ai (ps.getD i []).length ci) ∧ (ps.getD i []).length ≤ 9223372036854775807 ∧ ToksAt w ai (ps.getD i [])
theorem PiecesAt.below {w w' : World} {a : Option Addr} {ps : List (List Tok)} (h : PiecesAt w a ps) (hb : Below w.heap.size w w') : PiecesAt w' a ps := by
  rcases h with h | ⟨b, off, rfl, hlt, h⟩
  · exact .inl h
  · refine .inr ⟨b, off, rfl, Nat.lt_of_lt_of_le hlt hb.size, fun i hi => ?_⟩
    obtain ⟨ai, ci, h1, h2, h3⟩ := h i hi
    exact ⟨ai, ci, by rw [hb.cell (p := ⟨b, _, none⟩) hlt]; exact h1, h2, h3.below hb⟩

theorem magic0 (h : 0 < (⟨#[80, 90, 49]⟩ : ByteArray).size) : wrap64 ((((⟨#[80, 90, 49]⟩ : ByteArray)[0]'h).toNat : Nat) : Int) = 80 := IntWalk.wrap64_in 80 ⟨by omega, by omega⟩
theorem magic1 (h : 1 < (⟨#[80, 90, 49]⟩ : ByteArray).size) : wrap64 ((((⟨#[80, 90, 49]⟩ : ByteArray)[1]'h).toNat : Nat) : Int) = 90 := IntWalk.wrap64_in 90 ⟨by omega, by omega⟩
theorem magic2 (h : 2 < (⟨#[80, 90, 49]⟩ : ByteArray).size) : wrap64 ((((⟨#[80, 90, 49]⟩ : ByteArray)[2]'h).toNat : Nat) : Int) = 49 := IntWalk.wrap64_in 49 ⟨by omega, by omega⟩

theorem writeBegin_calls (q B : Nat) (v : Value) (w : World) (h : WrAt w q B v []) (hB : B ≤ w.heap.size) :
    Calls Tryz.prog 64 #[.pointer (some ⟨q, 0, none⟩)] w fun e w' => e = .returned (.tuple #[]) ∧ WrDone w w' q B v magicBits := by
  have HW : Hid (WrAt w q B v []) := h
  clear h
  go_enter Tryz.func64, Tryz.ntmps64
  go_wp2
  go_loopw [2] (fun i wr => ∃ (k : Nat) (v' : Value), k ≤ 3 ∧ i = .int .i64 k ∧ Hid (WrAt wr q B v' (magicBits.take (8 * k))) ∧ WrKept w wr q v v') (fun i _ => 3 - (intOf i).toNat)
  case atStart => exact ⟨0, v, by omega, rfl, HW.out, WrKept.refl _ _ _⟩
  case round =>
    obtain ⟨k, v', hk, rfl, hw, hkp⟩ := hrel
    have hs := hkp.size
    rcases (show k = 0 ∨ k = 1 ∨ k = 2 ∨ k = 3 by omega) with rfl | rfl | rfl | rfl
    · go_wp2_with fail
      rw [magic0]
      refine (byte_calls q B v' _ _ _ hw.out (by omega) (by decide) (by omega) (by omega)).mono ?_
      rintro e w1 ⟨rfl, v2, hw2, hk2⟩
      have HW2 : Hid (WrAt w1 q B v2 (magicBits.take (8 * (0 + 1)))) := hw2
      have hkk := hkp.trans hk2
      clear hw2 hk2 hkp
      go_wp2
      go_roundw
      case rel => exact ⟨1, v2, by omega, by go_num, HW2, hkk⟩
      case measure => simp [intOf]
    · go_wp2_with fail
      rw [magic1]
      refine (byte_calls q B v' _ _ _ hw.out (by omega) (by decide) (by omega) (by omega)).mono ?_
      rintro e w1 ⟨rfl, v2, hw2, hk2⟩
      have HW2 : Hid (WrAt w1 q B v2 (magicBits.take (8 * (1 + 1)))) := hw2
      have hkk := hkp.trans hk2
      clear hw2 hk2 hkp
      go_wp2
      go_roundw
      case rel => exact ⟨2, v2, by omega, by go_num, HW2, hkk⟩
      case measure => simp [intOf]
    · go_wp2_with fail
      rw [magic2]
      refine (byte_calls q B v' _ _ _ hw.out (by omega) (by decide) (by omega) (by omega)).mono ?_
      rintro e w1 ⟨rfl, v2, hw2, hk2⟩
      have HW2 : Hid (WrAt w1 q B v2 (magicBits.take (8 * (2 + 1)))) := hw2
      have hkk := hkp.trans hk2
      clear hw2 hk2 hkp
      go_wp2
      go_roundw
      case rel => exact ⟨3, v2, by omega, by go_num, HW2, hkk⟩
      case measure => simp [intOf]
    · go_wp2
      go_end0
      exact ⟨rfl, v', hw.out, hkp⟩

theorem writeEnd_calls (q B : Nat) (v : Value) (L : List Bool) (w : World) (h : WrAt w q B v L) (hB : B ≤ w.heap.size) (hl : L.length ≤ 6000000) (hf : L.length % 8 = 0) :
    Calls Tryz.prog 67 #[.pointer (some ⟨q, 0, none⟩)] w fun e w' => e = .returned (.tuple #[]) ∧ WrDone w w' q B v (L ++ endBits) := by
  have HW : Hid (WrAt w q B v L) := h
  have HF : Hid (fill (L ++ numBits 1) = L ++ endBits) := fill_append L _ hf
  clear h hf
  go_enter Tryz.func67, Tryz.ntmps67
  go_wp2_with fail
  refine (wnumber_calls q B v L 1 _ HW.out hB (by omega) (by omega) (by omega)).mono ?_
  rintro e w1 ⟨rfl, v1, hw1, hk1⟩
  have HW1 : Hid (WrAt w1 q B v1 (L ++ numBits 1)) := hw1
  have HK1 : Hid (WrKept w w1 q v v1) := hk1
  have hs1 := hk1.size
  clear hw1 hk1
  have h1 : (numBits 1).length = 1 := rfl
  go_wp2_with fail
  refine (fill_calls q B v1 _ _ HW1.out (by omega) (by rw [List.length_append, h1]; omega)).mono ?_
  rintro e w2 ⟨rfl, v2, hw2, hk2⟩
  rw [HF.out] at hw2
  have HD : Hid (WrDone w w2 q B v (L ++ endBits)) := ⟨v2, hw2, HK1.out.trans hk2⟩
  clear hw2 hk2
  go_wp2
  go_end0
  exact ⟨rfl, HD.out⟩

theorem bytes_calls (q B : Nat) (v : Value) (L : List Bool) (w : World) (h : WrAt w q B v L) :
    Calls Tryz.prog 68 #[.pointer (some ⟨q, 0, none⟩)] w fun e w' => e = .returned v ∧ w' = w := by
  obtain ⟨⟨c0, c1, c2⟩, f0, f1, f2⟩ := trio_cell h.block
  clear h
  go_enter Tryz.func68, Tryz.ntmps68
  go_wp2
  go_ret
  exact ⟨rfl, rfl⟩

theorem mayBe_calls (n : Int) (last : Bool) (w : World) :
    Calls Tryz.prog 65 #[.int .i64 n, .bool last] w fun e w' => e = .returned (.bool (decide (n = 64) || (last && decide (1 ≤ n)))) ∧ w' = w := by
  cases last
  all_goals
    go_enter Tryz.func65, Tryz.ntmps65
    go_wp2
    all_goals
      go_ret
      refine ⟨ret_bool ?_, rfl⟩
      simp_all

theorem ok_facts {ts : List Tok} (h : Tok.okB ts = true) : ∃ out, Tok.expand [] ts = some out ∧ made ts = out ∧ out.length ≤ 64 ∧ ts.length ≤ out.length ∧ ∀ t ∈ ts, Tok.plainB t ∧ Tok.cost t ≤ 31 := by
  cases he : Tok.expand [] ts with
  | none => rw [Tok.okB_none he] at h; cases h
  | some out =>
    refine ⟨out, rfl, by simp [made, he], Tok.expand_le ts [] out (by simp) he, ?_, Tok.expand_all ts [] out he⟩
    have := Tok.expand_many ts [] out he
    simpa using this
theorem okAt_ok {n k : Nat} {ts : List Tok} (h : okAt n k ts = true) : Tok.okB ts = true := by
  unfold okAt at h
  exact (Bool.and_eq_true _ _ ▸ h).1
theorem frames_short (ps : List (List Tok)) : ∀ k, k ≤ ps.length → (∀ i, i < k → okAt ps.length i (ps.getD i []) = true) → (frames ps k).length ≤ 2100 * k
  | 0, _, _ => by simp [frames]
  | k + 1, hk, h => by
    rw [frames_succ ps k (by omega), List.length_append]
    have h1 := frames_short ps k (by omega) fun i hi => h i (by omega)
    obtain ⟨out, _, h3, h4, h5, h6⟩ := ok_facts (okAt_ok (h k (by omega)))
    have := frameBits_short (ps.getD k []) (made (ps.getD k [])) (by omega) (by rw [h3]; exact h4) h6
    omega

/-- How Pack ends: what the third way's bytes are good for is P. -/
def PackAns (ps : List (List Tok)) (e : Ending) (P : Value → List UInt8 → Prop) : Prop :=
  (600 < ps.length ∧ e = .returned (.tuple #[.slice none 0 0, .int .i64 1])) ∨
  (ps.length ≤ 600 ∧ (∃ k, k < ps.length ∧ okAt ps.length k (ps.getD k []) = false) ∧ e = .returned (.tuple #[.slice none 0 0, .int .i64 2])) ∨
  (ps.length ≤ 600 ∧ (∀ k, k < ps.length → okAt ps.length k (ps.getD k []) = true) ∧ ∃ v, e = .returned (.tuple #[v, .int .i64 0]) ∧ P v (toBytes (magicBits ++ frames ps ps.length ++ endBits)))

theorem wr_new (w : World) : WrAt (w.alloc (.cells #[.slice none 0 0, .int .i64 0, .int .i64 0] 115)) w.heap.size w.heap.size (.slice none 0 0) [] :=
  ⟨heap_alloc_new w _, World.ownsRow_nil _ _ _ _⟩

theorem magic_length : magicBits.length = 24 := rfl

set_option maxHeartbeats 1000000 in
theorem pack_calls (a : Option Addr) (ps : List (List Tok)) (cap : Nat) (w : World) (hl : ps.length ≤ 9223372036854775807) (ht : PiecesAt w a ps) :
    Calls Tryz.prog 39 #[.slice a ps.length cap] w fun e w' => Below w.heap.size w w' ∧ PackAns ps e (OwnB w' w.heap.size) := by
  have HT : Hid (PiecesAt w a ps) := ht
  clear ht
  by_cases hlong : 600 < ps.length
  · go_enter Tryz.func39, Tryz.ntmps39
    go_wp2
    go_ret2
    exact ⟨Below.refl _ _, .inl ⟨hlong, rfl⟩⟩
  · have hn : ps.length ≤ 600 := by omega
    clear hlong
    go_enter Tryz.func39, Tryz.ntmps39
    go_wp2_with fail
    refine (writeBegin_calls w.heap.size w.heap.size (.slice none 0 0) _ (wr_new w) (by simp)).mono ?_
    rintro e w1 ⟨rfl, v1, hw1, hk1⟩
    have hb1 : Below w.heap.size w w1 := ((Below.refl _ _).alloc (Nat.le_refl _) _).trans (hk1.below (Nat.le_refl _) (by simp) (fun k h => by simp [Value.ownBlock] at h))
    have HW1 : Hid (WrAt w1 w.heap.size w.heap.size v1 magicBits) := hw1
    clear hw1 hk1
    go_wp2
    go_loopw [19] (fun i wr => ∃ (k : Nat) (v' : Value), k ≤ ps.length ∧ i = .int .i64 k ∧ Hid (∀ j, j < k → okAt ps.length j (ps.getD j []) = true) ∧ Hid (WrAt wr w.heap.size w.heap.size v' (magicBits ++ frames ps k)) ∧ Below w.heap.size w wr) (fun i _ => ps.length - (intOf i).toNat)
    case atStart => exact ⟨0, v1, Nat.zero_le _, rfl, fun j hj => by omega, by show WrAt _ _ _ _ _; simpa [frames] using HW1.out, hb1⟩
    case round =>
      obtain ⟨k, v', hk, rfl, hok, hw, hb⟩ := hrel
      clear HW1 hb1
      have hs := hb.size
      have hfs := frames_short ps k hk hok.out
      by_cases hlt : k < ps.length
      · obtain ⟨b, off, ha, hbl, hcell⟩ : ∃ b off, a = some ⟨b, off, none⟩ ∧ b < w.heap.size ∧ ∀ i, i < ps.length → ∃ ai ci, w.cell? ⟨b, off + i, none⟩ = some (.slice ai (ps.getD i []).length ci) ∧ (ps.getD i []).length ≤ 9223372036854775807 ∧ ToksAt w ai (ps.getD i []) := by
          rcases HT.out with h | h
          · rw [h] at hlt; simp at hlt
          · exact h
        subst ha
        obtain ⟨ai, ci, c0, hlen, htk⟩ := hcell k hlt
        rw [← hb.cell (p := ⟨b, _, none⟩) hbl] at c0
        clear hcell
        have HF : Hid (frames ps (k + 1) = frames ps k ++ frameBits (ps.getD k []) (made (ps.getD k []))) := frames_succ ps k hlt
        generalize hps : ps.getD k [] = ts at *
        have HPS : Hid _ := hps
        have HTK : Hid (ToksAt w ai ts) := htk
        clear hps htk
        go_wp2_with fail
        refine (expand_calls ai ts ci _ hlen (HTK.out.below hb)).mono ?_
        rintro e w2 ⟨hb2, hans⟩
        have HW2 : Hid (WrAt w2 w.heap.size w.heap.size v' (magicBits ++ frames ps k)) := WrAt.below hw.out hb2
        have hs2 := hb2.size
        have hbb : Below w.heap.size w w2 := hb.trans (hb2.mono hs)
        have hlast : ((k : Int) == (ps.length : Int) - 1) = decide (k + 1 = ps.length) := by rw [Bool.eq_iff_iff]; simp; omega
        rcases hans with ⟨he, rfl⟩ | ⟨out, v2, he, ho, rfl, hown⟩
        · have HE : Hid (okAt ps.length k (ps.getD k []) = false) := by
            show _ = _
            rw [HPS.out]; unfold okAt; rw [Tok.okB_none he]; rfl
          clear he
          go_wp2
          go_ret2
          exact ⟨hbb, .inr (.inl ⟨hn, ⟨k, hlt, HE.out⟩, rfl⟩)⟩
        · have HOK : Hid (okAt ps.length k (ps.getD k []) = (decide ((out.length : Int) = 64) || (decide (k + 1 = ps.length) && decide (1 ≤ (out.length : Int))))) := by
            show _ = _
            rw [HPS.out]
            have hm : made ts = out := by simp [made, he]
            unfold okAt
            rw [Tok.okB_some he, hm, Bool.true_and]
            congr 1
            · rw [Bool.eq_iff_iff]; simp; omega
            · congr 1; rw [Bool.eq_iff_iff]; simp; omega
          have HE : Hid _ := he
          have HM : Hid (made ts = out) := by show _ = _; simp [made, he]
          obtain ⟨pa, pc, rfl, hpa, hpo⟩ := BytesAt.own hown
          have HPA : Hid (BytesAt w2 pa out) := hpa
          have HPO : Hid _ := hpo
          have HOW : Hid _ := hown
          clear he hown hpa hpo
          go_wp2_with fail
          refine (mayBe_calls _ _ _).mono ?_
          rintro e w3 ⟨rfl, rfl⟩
          rw [← HOK.out]
          cases hq : okAt ps.length k (ps.getD k []) with
          | false =>
            have HE2 : Hid _ := hq
            clear hq
            go_wp2
            go_ret2
            exact ⟨hbb, .inr (.inl ⟨hn, ⟨k, hlt, HE2.out⟩, rfl⟩)⟩
          | true =>
            obtain ⟨out', he', hm', ho', hto, hall⟩ := ok_facts (okAt_ok hq)
            have HQ : Hid _ := hq
            have hpos : 0 < ts.length := by
              rcases Nat.eq_zero_or_pos ts.length with h | h
              · exfalso
                have : ts = [] := List.eq_nil_of_length_eq_zero h
                rw [HPS.out, this] at hq
                simp [okAt, made, Tok.expand] at hq
              · exact h
            rw [HPS.out] at hto hall
            have hto64 : ts.length ≤ 64 := by omega
            have HALL : Hid (∀ t ∈ ts, Tok.plainB t ∧ Tok.cost t ≤ 31) := hall
            have hqw : w.heap.size < w3.heap.size := by have := hw.out.lt; omega
            have hov := hw.out.ownlt
            have HOB : Hid (∀ k, v'.ownBlock = some k → w.heap.size ≤ k) := fun k h => (World.ownsRow.lt hw.out.own k h).1
            have HP1 : Hid (∀ b off, pa = some ⟨b, off, none⟩ → b < w3.heap.size ∧ b ≠ w.heap.size ∧ v'.ownBlock ≠ some b) := fun b off e => by
              obtain ⟨g1, g2⟩ := HPO.out b off e
              refine ⟨(World.ownsRow.lt HOW.out b g2).2, ?_, fun h => ?_⟩
              · have := hw.out.lt; omega
              · have := hov b h; omega
            have HP2 : Hid (∀ b off, ai = some ⟨b, off, none⟩ → b < w3.heap.size ∧ b ≠ w.heap.size ∧ v'.ownBlock ≠ some b) := fun b' off' e => by
              rcases HTK.out with h | ⟨b2, off2, h1, h2, _⟩
              · rw [h] at hpos; simp at hpos
              · rw [e] at h1
                simp at h1
                obtain ⟨rfl, rfl⟩ := h1
                refine ⟨by omega, by omega, fun h => ?_⟩
                have := HOB.out b' h
                omega
            have HFL : Hid ((magicBits ++ frames ps k).length % 8 = 0) := by show _ = _; rw [List.length_append, magic_length]; have := frames_full ps k; omega
            clear hq hall hov hto he' hm' ho'
            go_wp2_with fail
            refine (writeFrame_calls w.heap.size w.heap.size v' (magicBits ++ frames ps k) pa ai out ts pc ci _ HW2.out (by omega) (by rw [List.length_append, magic_length]; omega) HFL.out hto64 ho HPA.out HP1.out (HTK.out.below hbb) HP2.out HALL.out).mono ?_
            rintro e w4 ⟨rfl, v4, hw4, hk4⟩
            rw [List.append_assoc, ← HM.out, ← HF.out] at hw4
            have HW4 : Hid (WrAt w4 w.heap.size w.heap.size v4 (magicBits ++ frames ps (k + 1))) := hw4
            have hb4 : Below w.heap.size w w4 := hbb.trans (hk4.below (Nat.le_refl _) (by omega) HOB.out)
            have HOKS : Hid (∀ j, j < k + 1 → okAt ps.length j (ps.getD j []) = true) := fun j hj => by
              rcases Nat.lt_or_ge j k with h | h
              · exact hok.out j h
              · have : j = k := by omega
                subst this; exact HQ.out
            clear hw4 hk4
            go_wp2
            go_roundw
            case rel => exact ⟨k + 1, v4, by omega, by go_num, HOKS, HW4, hb4⟩
            case measure => simp [intOf]; omega
      · have hke : k = ps.length := by omega
        have HKE : Hid _ := hke
        have HFL : Hid ((magicBits ++ frames ps k).length % 8 = 0) := by show _ = _; rw [List.length_append, magic_length]; have := frames_full ps k; omega
        have HOB : Hid (∀ k, v'.ownBlock = some k → w.heap.size ≤ k) := fun k h => (World.ownsRow.lt hw.out.own k h).1
        clear hke
        go_wp2_with fail
        refine (writeEnd_calls w.heap.size w.heap.size v' _ _ hw.out hs (by rw [List.length_append, magic_length]; omega) HFL.out).mono ?_
        rintro e w4 ⟨rfl, v4, hw4, hk4⟩
        have hb4 : Below w.heap.size w w4 := hb.trans (hk4.below (Nat.le_refl _) hs HOB.out)
        have HW4 : Hid (WrAt w4 w.heap.size w.heap.size v4 (magicBits ++ frames ps k ++ endBits)) := hw4
        clear hw4 hk4
        go_wp2_with fail
        refine (bytes_calls _ _ _ _ _ HW4.out).mono ?_
        rintro e w5 ⟨rfl, rfl⟩
        go_wp2
        go_ret2
        refine ⟨hb4, .inr (.inr ⟨hn, fun j hj => hok.out j (by rw [HKE.out]; exact hj), v4, rfl, ?_⟩)⟩
        rw [← HKE.out]
        exact HW4.out.own
end Go.Proofs.YtnpnaglgllcpfaaGreat
