/-
  Lemmas for the law All: En0, Ecr, Ecr2, Ecr3.
-/
import Derived.Test.YtnpnaglgllcpfaaGreatM16
import Derived.Test.YtnpnaglgllcpfaaGreatM20
import Derived.Test.YtnpnaglgllcpfaaGreatM10
import Derived.BigRegion
/- Where the frames of a stream end; what an Encoder has laid down: plain facts, of no program. -/
namespace Go.Proofs.YtnpnaglgllcpfaaGreat
set_option maxRecDepth 100000

theorem frames_zero (ps : List (List Tok)) : frames ps 0 = [] := by simp [frames]
theorem frames_cons (ts : List Tok) (qs : List (List Tok)) (k : Nat) : frames (ts :: qs) (k + 1) = frameBits ts (made ts) ++ frames qs k := by simp [frames]
theorem rMain_ends (L : List Bool) : ∀ (qs ps : List (List Tok)) (f : Nat) (data : List UInt8) (ends : List Nat) (b : Nat), (∀ i, i < qs.length → okAt (ps.length + qs.length) (ps.length + i) (qs.getD i []) = true) → (data.length = 64 * ps.length ∨ qs = []) → qs.length + 1 ≤ f → L.length = b + (framesOf qs ++ endBits).length →
    rMain L f ps data ends (framesOf qs ++ endBits) = (0, ps ++ qs, data ++ qs.flatMap made, ends ++ (List.range qs.length).map fun i => (b + (frames qs (i + 1)).length) / 8)
  | [], ps, f, data, ends, b, _, _, hf, _ => by
    obtain ⟨f, rfl⟩ : ∃ f', f = f' + 1 := ⟨f - 1, by simp at hf; omega⟩
    have := rMain_stop L f ps data ends
    simpa [framesOf] using this
  | ts :: qs, ps, f, data, ends, b, hok, hd, hf, hL => by
    obtain ⟨f, rfl⟩ : ∃ f', f = f' + 1 := ⟨f - 1, by simp at hf; omega⟩
    replace hd : data.length = 64 * ps.length := hd.resolve_right (by simp)
    have h0 := okAt_facts (hok 0 (by simp))
    simp only [List.getD_cons_zero] at h0
    obtain ⟨h1, h2, h3, h4⟩ := h0
    have e : framesOf (ts :: qs) ++ endBits = frameBits ts (made ts) ++ (framesOf qs ++ endBits) := by simp [framesOf]
    have hR : (framesOf qs ++ endBits).length % 8 = 0 := by
      have := framesOf_full qs
      rw [List.length_append, endBits_length]; omega
    rw [e, List.length_append] at hL
    have hLl : L.length - (framesOf qs ++ endBits).length = b + (frameBits ts (made ts)).length := by omega
    rw [e, rMain_frame L f ps data ends ts (made ts) _ h1 h2 h3 hR hd]
    have hen := rMain_ends L qs (ps ++ [ts]) f (data ++ made ts) (ends ++ [(L.length - (framesOf qs ++ endBits).length) / 8]) (b + (frameBits ts (made ts)).length) (fun i hi => by
      have := hok (i + 1) (by simp; omega)
      rw [List.getD_cons_succ] at this
      simp only [List.length_append, List.length_cons, List.length_nil] at this ⊢
      rwa [show ps.length + (0 + 1) + qs.length = ps.length + (qs.length + 1) by omega, show ps.length + (0 + 1) + i = ps.length + (i + 1) by omega]) (by
      rcases h4 with h4 | h4
      · left; simp; omega
      · right; exact List.eq_nil_of_length_eq_zero (by simp only [List.length_cons] at h4; omega)) (by simp at hf; omega) (by omega)
    rw [hen, hLl]
    have e2 : (List.range (ts :: qs).length).map (fun i => (b + (frames (ts :: qs) (i + 1)).length) / 8) = (b + (frameBits ts (made ts)).length) / 8 :: (List.range qs.length).map (fun i => (b + (frameBits ts (made ts)).length + (frames qs (i + 1)).length) / 8) := by
      rw [List.length_cons, List.range_succ_eq_map, List.map_cons, List.map_map]
      congr 1
      · rw [frames_cons, frames_zero]; simp
      · apply List.map_congr_left
        intro i _
        simp only [Function.comp]
        rw [frames_cons, List.length_append]
        congr 1; omega
    rw [e2]
    simp

theorem rRead_ends (ps : List (List Tok)) (hok : ∀ i, i < ps.length → okAt ps.length i (ps.getD i []) = true) (hl : (streamBits ps).length ≤ 32768) :
    rRead (toBytes (streamBits ps)) = (0, ps, ps.flatMap made, (List.range ps.length).map fun i => (24 + (frames ps (i + 1)).length) / 8) := by
  have hf := streamBits_full ps
  have hb : bitsIn (toBytes (streamBits ps)) = streamBits ps := bitsIn_toBytes ((streamBits ps).length / 8) _ (by omega)
  have hlen := toBytes_length (streamBits ps)
  unfold rRead
  rw [if_neg (by omega), hb]
  have hm : rMagic [80, 90, 49] (streamBits ps) = .ok (framesOf ps ++ endBits) := by
    unfold streamBits
    rw [frames_all, List.append_assoc, rMagic_bits]
  rw [hm]
  simp only
  have hcount : ∀ qs : List (List Tok), qs.length ≤ (framesOf qs).length := fun qs => by
    induction qs with
    | nil => simp
    | cons t qs ih =>
      have : 1 ≤ (frameBits t (made t)).length := by
        rw [frame_split]
        unfold tailBits
        simp only [List.length_append, bin_length]
        omega
      simp only [framesOf, List.flatMap_cons, List.length_append, List.length_cons] at *
      omega
  have hc : ps.length + 1 ≤ (streamBits ps).length + 1 := by
    have := hcount ps
    unfold streamBits
    rw [frames_all, List.length_append, List.length_append]
    omega
  have hen := rMain_ends (streamBits ps) ps [] ((streamBits ps).length + 1) [] [] 24 (fun i hi => by simpa using hok i hi) (.inl rfl) hc (by
    unfold streamBits
    rw [frames_all, List.length_append, List.length_append, magic_length, List.length_append]; omega)
  simpa using hen

/-- The frames of the full pieces of data. -/
def fullBits (f : List UInt8 → List Tok) (data : List UInt8) : List Bool := (List.range (data.length / 64)).flatMap fun i => frameBits (f (pieceAt data i)) (pieceAt data i)
theorem fullBits_nil (f : List UInt8 → List Tok) : fullBits f [] = [] := by simp [fullBits]
theorem pieceAt_append (d p : List UInt8) (i : Nat) (h : i < d.length / 64) : pieceAt (d ++ p) i = pieceAt d i := by
  unfold pieceAt
  rw [List.drop_append_of_le_length (by omega), List.take_append_of_le_length (by rw [List.length_drop]; omega)]
theorem fullBits_append (f : List UInt8 → List Tok) (d p : List UInt8) : fullBits f (d ++ p) = fullBits f d ++ (List.range ((d ++ p).length / 64 - d.length / 64)).flatMap fun i => frameBits (f (pieceAt (d ++ p) (d.length / 64 + i))) (pieceAt (d ++ p) (d.length / 64 + i)) := by
  unfold fullBits
  have hle : d.length / 64 ≤ (d ++ p).length / 64 := by rw [List.length_append]; omega
  conv => lhs; rw [show (d ++ p).length / 64 = d.length / 64 + ((d ++ p).length / 64 - d.length / 64) by omega, List.range_add, List.flatMap_append, List.flatMap_map]
  congr 1
  have : ∀ (l : List Nat), (∀ i ∈ l, i < d.length / 64) → l.flatMap (fun i => frameBits (f (pieceAt (d ++ p) i)) (pieceAt (d ++ p) i)) = l.flatMap (fun i => frameBits (f (pieceAt d i)) (pieceAt d i)) := by
    intro l
    induction l with
    | nil => intro _; rfl
    | cons i l ih =>
      intro hm
      rw [List.flatMap_cons, List.flatMap_cons, pieceAt_append d p i (hm i (by simp)), ih (fun j hj => hm j (by simp [hj]))]
  exact this _ (fun i hi => by simpa using hi)
/-- One byte more that fills no piece. -/
theorem fullBits_some (f : List UInt8 → List Tok) (d : List UInt8) (b : UInt8) (h : (d.length + 1) % 64 ≠ 0) : fullBits f (d ++ [b]) = fullBits f d := by
  rw [fullBits_append]
  have : (d ++ [b]).length / 64 - d.length / 64 = 0 := by rw [List.length_append]; simp only [List.length_cons, List.length_nil]; omega
  rw [this]
  simp
/-- The last piece of some data, a full one. -/
theorem pieceAt_last (d : List UInt8) (b : UInt8) (h : (d.length + 1) % 64 = 0) : pieceAt (d ++ [b]) (d.length / 64) = d.drop (64 * (d.length / 64)) ++ [b] := by
  unfold pieceAt
  rw [List.drop_append_of_le_length (by omega), List.take_of_length_le (by rw [List.length_append, List.length_drop]; simp only [List.length_cons, List.length_nil]; omega)]
/-- One byte more that fills a piece. -/
theorem fullBits_full (f : List UInt8 → List Tok) (d : List UInt8) (b : UInt8) (h : (d.length + 1) % 64 = 0) : fullBits f (d ++ [b]) = fullBits f d ++ frameBits (f (d.drop (64 * (d.length / 64)) ++ [b])) (d.drop (64 * (d.length / 64)) ++ [b]) := by
  rw [fullBits_append]
  have : (d ++ [b]).length / 64 - d.length / 64 = 1 := by rw [List.length_append]; simp only [List.length_cons, List.length_nil]; omega
  rw [this, ← pieceAt_last d b h]
  simp [List.range_succ]
theorem fullBits_fits (f : List UInt8 → List Tok) (data : List UInt8) : (fullBits f data).length % 8 = 0 := by
  unfold fullBits
  have : ∀ l : List Nat, (l.flatMap fun i => frameBits (f (pieceAt data i)) (pieceAt data i)).length % 8 = 0 := by
    intro l
    induction l with
    | nil => rfl
    | cons i l ih =>
      rw [List.flatMap_cons, List.length_append]
      have := frameBits_full (f (pieceAt data i)) (pieceAt data i)
      omega
  exact this _
/-- The frames of full pieces are those of the stream, so far. -/
theorem frames_full_is {f : List UInt8 → List Tok} (hf : Chosen f) (data : List UInt8) : frames (toksOf f data) (data.length / 64) = fullBits f data := by
  have key : ∀ n, n ≤ data.length / 64 → frames (toksOf f data) n = (List.range n).flatMap fun i => frameBits (f (pieceAt data i)) (pieceAt data i) := by
    intro n
    induction n with
    | zero => intro _; simp [frames_zero]
    | succ n ih =>
      intro hn
      have hlt : n < cutN data := by unfold cutN; omega
      rw [frames_succ _ n (by rw [toksOf_length]; exact hlt), ih (by omega), toksOf_getD f data n hlt, (chosen_made hf _ (piece_le data n)).2.1, List.range_succ]
      simp
  exact key _ (Nat.le_refl _)
/-- What is left behind the full pieces, and the stream whole. -/
theorem stream_is {f : List UInt8 → List Tok} (hf : Chosen f) (data : List UInt8) : streamBits (toksOf f data) = magicBits ++ fullBits f data ++ (if data.length % 64 = 0 then [] else frameBits (f (data.drop (64 * (data.length / 64)))) (data.drop (64 * (data.length / 64)))) ++ endBits := by
  unfold streamBits
  congr 1
  rw [List.append_assoc]
  congr 1
  rw [← frames_full_is hf, toksOf_length]
  by_cases h0 : data.length % 64 = 0
  · rw [if_pos h0, show cutN data = data.length / 64 by unfold cutN; omega]; simp
  · have hlt : data.length / 64 < cutN data := by unfold cutN; omega
    rw [if_neg h0, show cutN data = data.length / 64 + 1 by unfold cutN; omega, frames_succ _ _ (by rw [toksOf_length]; exact hlt), toksOf_getD f data _ hlt, (chosen_made hf _ (piece_le data _)).2.1]
    have : pieceAt data (data.length / 64) = data.drop (64 * (data.length / 64)) := by
      unfold pieceAt
      exact List.take_of_length_le (by rw [List.length_drop]; omega)
    rw [this]
/-- Up to where a stream is certain. -/
def upTo (f : List UInt8 → List Tok) (data : List UInt8) : Nat := (24 + (fullBits f data).length) / 8
theorem stream_take {f : List UInt8 → List Tok} (hf : Chosen f) (data : List UInt8) : upTo f data ≤ (streamOf f data).length ∧ (streamOf f data).take (upTo f data) = toBytes (magicBits ++ fullBits f data) := by
  have h1 := fullBits_fits f data
  have h2 : (magicBits ++ fullBits f data).length % 8 = 0 := by rw [List.length_append, magic_length]; omega
  have hl : (toBytes (magicBits ++ fullBits f data)).length = upTo f data := by rw [toBytes_length, List.length_append, magic_length]; rfl
  have e : streamOf f data = toBytes (magicBits ++ fullBits f data) ++ toBytes ((if data.length % 64 = 0 then [] else frameBits (f (data.drop (64 * (data.length / 64)))) (data.drop (64 * (data.length / 64)))) ++ endBits) := by
    unfold streamOf
    rw [stream_is hf, List.append_assoc, toBytes_append _ _ h2]
  rw [e]
  refine ⟨by rw [List.length_append, hl]; omega, ?_⟩
  rw [← hl, List.take_left']
  rfl
/-- What is read of a stream: where the frames end too. -/
theorem stream_ends {f : List UInt8 → List Tok} (hf : Chosen f) (data : List UInt8) (hd : data.length ≤ 2048) : rRead (streamOf f data) = (0, toksOf f data, data, (List.range (cutN data)).map fun i => (24 + (frames (toksOf f data) (i + 1)).length) / 8) := by
  have hn : cutN data ≤ 32 := by unfold cutN; omega
  have := rRead_ends (toksOf f data) (toks_ok hf data) (by
    have := frames_chosen hf data _ (Nat.le_refl _)
    unfold streamBits
    rw [List.length_append, List.length_append, endBits_length, magic_length]
    rw [toksOf_length] at this ⊢
    omega)
  rw [toks_made hf, toksOf_length] at this
  exact this
end Go.Proofs.YtnpnaglgllcpfaaGreat

/- What the program's Encoder does: one byte more. -/
namespace Go.Proofs.YtnpnaglgllcpfaaGreat
set_option maxRecDepth 100000
open Go.RowKit

/-- The cells of an Encoder. -/
def encCells (o b : Bool) (n : Int) (pc : List UInt8) : Array Value := (.bool o :: .bool b :: .int .i64 n :: cellsB pc).toArray
/-- The Encoder in block q: is it open, has it begun, how much was taken, its piece. -/
abbrev EncBox (w : World) (q : Nat) (o b : Bool) (n : Int) (pc : List UInt8) : Prop := w.heap[q]? = some (.cells (encCells o b n pc) 83 (0, 0))
theorem EncBox.cells {w : World} {q : Nat} {o b : Bool} {n : Int} {pc : List UInt8} (h : EncBox w q o b n pc) :
    (w.cell? ⟨q, 0, none⟩ = some (.bool o) ∧ w.cell? ⟨q, 1, none⟩ = some (.bool b) ∧ w.cell? ⟨q, 2, none⟩ = some (.int .i64 n)) ∧ (w.frozen? ⟨q, 0, none⟩ = false ∧ w.frozen? ⟨q, 1, none⟩ = false ∧ w.frozen? ⟨q, 2, none⟩ = false) := by
  simp [World.cell?, World.frozen?, h, encCells]
theorem EncBox.piece {w : World} {q : Nat} {o b : Bool} {n : Int} {pc : List UInt8} (h : EncBox w q o b n pc) (i : Nat) (hi : i < pc.length) :
    w.cell? ⟨q, 3 + i, none⟩ = some (.int .u8 (pc.getD i 0).toNat) ∧ w.frozen? ⟨q, 3 + i, none⟩ = false := by
  have e : (encCells o b n pc)[3 + i]? = some (.int .u8 (pc.getD i 0).toNat) := by
    simp only [encCells, List.getElem?_toArray]
    rw [show 3 + i = i + 1 + 1 + 1 by omega]
    simp [cellsB, List.getD, hi]
  simp [World.cell?, World.frozen?, h, e]
theorem EncBox.setN {w : World} {q : Nat} {o b : Bool} {n : Int} {pc : List UInt8} (h : EncBox w q o b n pc) (m : Int) : EncBox (w.setCell ⟨q, 2, none⟩ (.int .i64 m)) q o b m pc := by
  have := set_block (i := 2) h (.int .i64 m)
  unfold EncBox
  rw [this]
  simp [encCells]
theorem EncBox.setB {w : World} {q : Nat} {o b : Bool} {n : Int} {pc : List UInt8} (h : EncBox w q o b n pc) (c : Bool) : EncBox (w.setCell ⟨q, 1, none⟩ (.bool c)) q o c n pc := by
  have := set_block (i := 1) h (.bool c)
  unfold EncBox
  rw [this]
  simp [encCells]
theorem EncBox.setP {w : World} {q : Nat} {o b : Bool} {n : Int} {pc : List UInt8} (h : EncBox w q o b n pc) (i : Nat) (x : UInt8) : EncBox (w.setCell ⟨q, 3 + i, none⟩ (.int .u8 x.toNat)) q o b n (pc.set i x) := by
  have := set_block (i := 3 + i) h (.int .u8 x.toNat)
  unfold EncBox
  rw [this]
  congr 2
  unfold encCells
  rw [show 3 + i = i + 1 + 1 + 1 by omega]
  simp [cellsB, List.map_set]
theorem EncBox.bytes {w : World} {q : Nat} {o b : Bool} {n : Int} {pc : List UInt8} (h : EncBox w q o b n pc) (k : Nat) : BytesAt w (some ⟨q, 3, none⟩) (pc.take k) :=
  .inr ⟨q, 3, rfl, fun i hi => by
    rw [List.length_take] at hi
    rw [(h.piece i (by omega)).1]
    congr 3
    simp only [List.getD]
    rw [List.getElem?_take_of_lt (by omega)]⟩

/-- What is laid down behind one byte more, which makes the piece pc. -/
def taken (L : List Bool) (n : Nat) (pc : List UInt8) : List Bool := if (n + 1) % 64 = 0 then L ++ frameBits (parseOf pc) pc else L
set_option maxHeartbeats 1000000 in
theorem take_calls (q wq B : Nat) (v : Value) (L : List Bool) (n : Nat) (pc : List UInt8) (x : UInt8) (w : World) (h : EncBox w q true true n pc) (hp : pc.length = 64) (hn : n < 2048) (hw : WrAt w wq B v L) (hB : B ≤ w.heap.size) (hl : L.length ≤ 5000000) (hfull : L.length % 8 = 0) (hqw : q ≠ wq) (hqv : v.ownBlock ≠ some q) :
    Calls Tryz.prog 82 #[.pointer (some ⟨q, 0, none⟩), .pointer (some ⟨wq, 0, none⟩), .int .u8 x.toNat] w fun e w' => e = .returned (.tuple #[]) ∧
      EncBox w' q true true ((n + 1 : Nat) : Int) (pc.set (n % 64) x) ∧ ∃ v', WrAt w' wq B v' (taken L n (pc.set (n % 64) x)) ∧ (∀ k, v'.ownBlock = some k → v.ownBlock = some k ∨ w.heap.size ≤ k) ∧ KeptBut w w' (q :: wq :: v.ownBlock.toList) := by
  obtain ⟨⟨c0, c1, c2⟩, f0, f1, f2⟩ := h.cells
  have hr : n % 64 < 64 := by omega
  obtain ⟨c3, f3⟩ := h.piece (n % 64) (by omega)
  have HBX : Hid _ := h
  have HW : Hid _ := hw
  have hq := (Array.getElem?_eq_some_iff.1 h).1
  clear h hw
  go_enter Tryz.func82, Tryz.ntmps82
  have hRm : (n : Int).tmod 64 = (n : Int) % 64 := Int.tmod_eq_emod_of_nonneg (by omega)
  have hRN : ((n : Int) % 64).toNat = n % 64 := by omega
  have hb1 : (0 : Int) ≤ (n : Int) % 64 ∧ (n : Int) % 64 < 64 := by omega
  have hb2 : (0 : Int) ≤ (n : Int).tmod 64 ∧ (n : Int).tmod 64 < 64 := by rw [hRm]; exact hb1
  have HRM : Hid _ := hRm
  have HRN : Hid _ := hRN
  have hb3 : (0 : Int) ≤ (n : Int) % 64 := by omega
  have hb4 : (n : Int) % 64 < 64 := by omega
  clear hRm hRN
  go_wp2_with fail
  go_region
  have HBX1 : Hid (EncBox ((w.setCell ⟨q, 3 + n % 64, none⟩ (.int .u8 x.toNat)).drew) q true true n (pc.set (n % 64) x)) := EncBox.setP HBX.out _ _
  have HW1 : Hid (WrAt ((w.setCell ⟨q, 3 + n % 64, none⟩ (.int .u8 x.toNat)).drew) wq B v L) := ⟨(set_other _ (Ne.symm hqw)).trans HW.out.block, HW.out.own.set _ hqv⟩
  have HK1 : Hid (KeptBut w ((w.setCell ⟨q, 3 + n % 64, none⟩ (.int .u8 x.toNat)).drew) (q :: wq :: v.ownBlock.toList)) := ((KeptBut.refl _ _).set (by simp) _).trans (KeptBut.below (below_drewN (Below.refl _ _) 1))
  have hs1 : ((w.setCell ⟨q, 3 + n % 64, none⟩ (.int .u8 x.toNat)).drew).heap.size = w.heap.size := set_size _ _ _
  have hp1 : (pc.set (n % 64) x).length = 64 := by rw [List.length_set]; exact hp
  generalize hpc : pc.set (n % 64) x = pc1 at *
  have HPC : Hid _ := hpc
  clear hpc HBX HW c0 c1 c2 c3 f0 f1 f2 f3 hb1 hb2 hb3 hb4
  generalize (w.setCell ⟨q, 3 + n % 64, none⟩ (.int .u8 x.toNat)).drew = w1 at *
  obtain ⟨⟨c0, c1, c2⟩, f0, f1, f2⟩ := HBX1.out.cells
  have HBX2 : Hid (EncBox (w1.setCell ⟨q, 2, none⟩ (.int .i64 ((n : Int) + 1))) q true true ((n : Int) + 1) pc1) := HBX1.out.setN _
  have HW2 : Hid (WrAt (w1.setCell ⟨q, 2, none⟩ (.int .i64 ((n : Int) + 1))) wq B v L) := ⟨(set_other _ (Ne.symm hqw)).trans HW1.out.block, HW1.out.own.set _ hqv⟩
  have HK2 : Hid (KeptBut w (w1.setCell ⟨q, 2, none⟩ (.int .i64 ((n : Int) + 1))) (q :: wq :: v.ownBlock.toList)) := HK1.out.set (by simp) _
  have hs2 : (w1.setCell ⟨q, 2, none⟩ (.int .i64 ((n : Int) + 1))).heap.size = w1.heap.size := set_size _ _ _
  by_cases h0 : (n + 1) % 64 = 0
  · have h0b : (((n : Int) + 1) % 64 == 0) = true := by simp; omega
    have HT : Hid (taken L n pc1 = L ++ frameBits (parseOf pc1) pc1) := if_pos h0
    have HWP : Hid (Calls Tryz.prog 83 #[.pointer (some ⟨wq, 0, none⟩), .slice (some ⟨q, 3, none⟩) 64 64] (w1.setCell ⟨q, 2, none⟩ (.int .i64 ((n : Int) + 1))) fun e w' => e = .returned (.tuple #[]) ∧ WrDone (w1.setCell ⟨q, 2, none⟩ (.int .i64 ((n : Int) + 1))) w' wq B v (L ++ frameBits (parseOf pc1) pc1)) := by
      have hbb := HBX2.out.bytes 64
      rw [List.take_of_length_le (by omega)] at hbb
      have := writePiece_calls wq B v L (some ⟨q, 3, none⟩) pc1 64 (w1.setCell ⟨q, 2, none⟩ (.int .i64 ((n : Int) + 1))) HW2.out (by omega) (by omega) hfull (by omega) hbb (fun b off e => by
        simp at e
        obtain ⟨rfl, _⟩ := e
        exact ⟨by omega, hqw, hqv⟩)
      rw [hp1] at this
      exact this
    clear h0 hp hp1
    go_wp2_with fail
    refine Calls.mono HWP.out ?_
    rintro r w3 ⟨rfl, v3, hw3, hk3⟩
    have HW3 : Hid _ := hw3
    have HBX3 : Hid (EncBox w3 q true true ((n : Int) + 1) pc1) := (hk3.heap q (by omega) hqw hqv).trans HBX2.out
    have HM3 : Hid (∀ k, v3.ownBlock = some k → v.ownBlock = some k ∨ w.heap.size ≤ k) := fun k hk => by
      rcases hk3.moved k hk with h | h
      · exact .inl h
      · right; omega
    have HK3 : Hid (KeptBut w w3 (q :: wq :: v.ownBlock.toList)) := HK2.out.trans ⟨hk3.os, hk3.tape, hk3.output, hk3.size, fun k h1 h2 => hk3.heap k h1 (fun e => h2 (by simp [e])) (fun e => h2 (by simp [e]))⟩
    clear hw3 hk3 HWP
    go_wp2
    go_end0
    exact ⟨rfl, by rw [HPC.out]; exact HBX3.out, v3, by rw [HPC.out, HT.out]; exact HW3.out, HM3.out, HK3.out⟩
  · have h0b : (((n : Int) + 1) % 64 == 0) = false := by simp; omega
    have HT : Hid (taken L n pc1 = L) := if_neg h0
    clear h0
    go_wp2
    go_end0
    exact ⟨rfl, by rw [HPC.out]; exact HBX2.out, v, by rw [HPC.out, HT.out]; exact HW2.out, fun k hk => .inl hk, HK2.out⟩
end Go.Proofs.YtnpnaglgllcpfaaGreat

/- What the program's Encoder answers: Write and Close. -/
namespace Go.Proofs.YtnpnaglgllcpfaaGreat
set_option maxRecDepth 100000
open Go.RowKit

/-- The Encoder in block q has taken the data d; has it begun? -/
def EncAt (w : World) (q : Nat) (d : List UInt8) (b : Bool) : Prop :=
  ∃ pc, EncBox w q true b d.length pc ∧ pc.length = 64 ∧ pc.take (d.length % 64) = d.drop (64 * (d.length / 64)) ∧ d.length ≤ 2048 ∧ (b = false → d = [])
/-- An Encoder that is closed. -/
def EncShut (w : World) (q : Nat) : Prop := ∃ b n pc, EncBox w q false b n pc
theorem EncAt.lt {w : World} {q : Nat} {d : List UInt8} {b : Bool} (h : EncAt w q d b) : q < w.heap.size := by
  obtain ⟨pc, h, _⟩ := h
  exact (Array.getElem?_eq_some_iff.1 h).1
theorem EncAt.kept {w w' : World} {q : Nat} {d : List UInt8} {b : Bool} (h : EncAt w q d b) (hk : w'.heap[q]? = w.heap[q]?) : EncAt w' q d b := by
  obtain ⟨pc, h, r⟩ := h
  exact ⟨pc, hk.trans h, r⟩
/-- What has come out of an Encoder, as bits. -/
def sofar (b : Bool) (d : List UInt8) : List Bool := bif b then magicBits ++ fullBits parseOf d else []
theorem sofar_full (b : Bool) (d : List UInt8) : (sofar b d).length % 8 = 0 := by
  cases b
  · rfl
  · show (magicBits ++ fullBits parseOf d).length % 8 = 0
    have := fullBits_fits parseOf d
    rw [List.length_append, magic_length]; omega
theorem set_take (pc : List UInt8) (r : Nat) (x : UInt8) (h : r < pc.length) : (pc.set r x).take (r + 1) = pc.take r ++ [x] := by
  rw [List.take_succ_eq_append_getElem (by rw [List.length_set]; exact h)]
  simp [List.take_set_of_le]
/-- One byte more. -/
theorem piece_more {d pc : List UInt8} {x : UInt8} (hp : pc.length = 64) (ht : pc.take (d.length % 64) = d.drop (64 * (d.length / 64))) :
    (pc.set (d.length % 64) x).take ((d ++ [x]).length % 64) = (d ++ [x]).drop (64 * ((d ++ [x]).length / 64)) ∧ ((d.length + 1) % 64 = 0 → pc.set (d.length % 64) x = d.drop (64 * (d.length / 64)) ++ [x]) := by
  have hl : (d ++ [x]).length = d.length + 1 := by simp
  have hr : d.length % 64 < 64 := by omega
  have h1 := set_take pc (d.length % 64) x (by omega)
  rw [ht] at h1
  rw [hl]
  by_cases h0 : (d.length + 1) % 64 = 0
  · refine ⟨?_, fun _ => ?_⟩
    · rw [h0, List.take_zero, List.drop_of_length_le (by rw [hl]; omega)]
    · rw [← h1, List.take_of_length_le (by rw [List.length_set]; omega)]
  · refine ⟨?_, fun h => absurd h h0⟩
    rw [show (d.length + 1) % 64 = d.length % 64 + 1 by omega, show (d.length + 1) / 64 = d.length / 64 by omega, h1, List.drop_append_of_le_length (by omega)]
theorem taken_is {d pc : List UInt8} {x : UInt8} {L : List Bool} {b : Bool} {d0 : List UInt8} (hp : pc.length = 64) (ht : pc.take (d.length % 64) = d.drop (64 * (d.length / 64))) (hL : sofar b d0 ++ L = magicBits ++ fullBits parseOf d) :
    sofar b d0 ++ taken L d.length (pc.set (d.length % 64) x) = magicBits ++ fullBits parseOf (d ++ [x]) := by
  unfold taken
  by_cases h0 : (d.length + 1) % 64 = 0
  · rw [if_pos h0, (piece_more hp ht).2 h0, fullBits_full _ _ _ h0, ← List.append_assoc, hL, List.append_assoc]
  · rw [if_neg h0, fullBits_some _ _ _ h0, hL]
theorem fullBits_le (d : List UInt8) : (fullBits parseOf d).length ≤ 620 * (d.length / 64) := by
  rw [← frames_full_is parse_chosen]
  exact frames_chosen parse_chosen d _ (by rw [toksOf_length]; unfold cutN; omega)

theorem newEncoder_calls (w : World) : Calls Tryz.prog 16 #[] w fun e w' => e = .returned (.pointer (some ⟨w.heap.size, 0, none⟩)) ∧ Below w.heap.size w w' ∧ w'.heap.size = w.heap.size + 1 ∧ EncAt w' w.heap.size [] false := by
  go_enter Tryz.func16, Tryz.ntmps16
  go_wp2
  go_ret
  refine ⟨rfl, (Below.refl _ _).alloc (Nat.le_refl _) _, by simp, List.replicate 64 0, ?_, by simp, by simp, by simp, fun _ => rfl⟩
  exact heap_alloc_new w _

theorem begin_no (q wq : Nat) (n : Int) (pc : List UInt8) (w : World) (h : EncBox w q true true n pc) :
    Calls Tryz.prog 81 #[.pointer (some ⟨q, 0, none⟩), .pointer (some ⟨wq, 0, none⟩)] w fun e w' => e = .returned (.tuple #[]) ∧ w' = w := by
  obtain ⟨⟨c0, c1, c2⟩, _⟩ := h.cells
  clear h
  go_enter Tryz.func81, Tryz.ntmps81
  go_wp2
  go_end0
  exact ⟨rfl, rfl⟩
set_option maxHeartbeats 1000000 in
theorem begin_yes (q wq : Nat) (n : Int) (pc : List UInt8) (w : World) (h : EncBox w q true false n pc) (hw : WrAt w wq wq (.slice none 0 0) []) (hq : q < wq) :
    Calls Tryz.prog 81 #[.pointer (some ⟨q, 0, none⟩), .pointer (some ⟨wq, 0, none⟩)] w fun e w' => e = .returned (.tuple #[]) ∧ EncBox w' q true true n pc ∧ ∃ v', WrAt w' wq wq v' magicBits ∧ KeptBut w w' [q, wq] := by
  obtain ⟨⟨c0, c1, c2⟩, _⟩ := h.cells
  have HBX : Hid _ := h
  have hwl := hw.lt
  have HW : Hid _ := writeBegin_calls wq wq (.slice none 0 0) w hw (by omega)
  clear h hw
  go_enter Tryz.func81, Tryz.ntmps81
  go_wp2_with fail
  refine Calls.mono HW.out ?_
  rintro r w1 ⟨rfl, v1, hw1, hk1⟩
  have hb1 : EncBox w1 q true false n pc := (hk1.heap q (by omega) (by omega) (by simp [Value.ownBlock])).trans HBX.out
  obtain ⟨⟨c0, c1, c2⟩, f0, f1, f2⟩ := EncBox.cells hb1
  have HB2 : Hid (EncBox (w1.setCell ⟨q, 1, none⟩ (.bool true)) q true true n pc) := EncBox.setB hb1 true
  have hvq : v1.ownBlock ≠ some q := fun e => by have := (World.ownsRow.lt hw1.own q e).1; omega
  have HW2 : Hid (WrAt (w1.setCell ⟨q, 1, none⟩ (.bool true)) wq wq v1 magicBits) := ⟨(set_other _ (by omega)).trans hw1.block, hw1.own.set _ hvq⟩
  have HK2 : Hid (KeptBut w (w1.setCell ⟨q, 1, none⟩ (.bool true)) [q, wq]) := KeptBut.set ⟨hk1.os, hk1.tape, hk1.output, hk1.size, fun k h1 h2 => hk1.heap k h1 (fun e => h2 (by simp [e])) (by simp [Value.ownBlock])⟩ (by simp) _
  clear hb1 hw1 hk1 HW
  go_wp2
  go_end0
  exact ⟨rfl, HB2.out, v1, HW2.out, HK2.out⟩
/-- begin, of an Encoder that has begun or not. -/
theorem begin_calls (q wq : Nat) (d : List UInt8) (b : Bool) (w : World) (h : EncAt w q d b) (hw : WrAt w wq wq (.slice none 0 0) []) (hq : q < wq) :
    Calls Tryz.prog 81 #[.pointer (some ⟨q, 0, none⟩), .pointer (some ⟨wq, 0, none⟩)] w fun e w' => e = .returned (.tuple #[]) ∧ EncAt w' q d true ∧ ∃ v' L, WrAt w' wq wq v' L ∧ sofar b d ++ L = magicBits ++ fullBits parseOf d ∧ KeptBut w w' [q, wq] := by
  obtain ⟨pc, h1, h2, h3, h4, h5⟩ := h
  cases b with
  | true =>
    refine (begin_no q wq d.length pc w h1).mono ?_
    rintro e w' ⟨rfl, rfl⟩
    exact ⟨rfl, ⟨pc, h1, h2, h3, h4, fun e => by cases e⟩, .slice none 0 0, [], hw, by simp [sofar], KeptBut.refl _ _⟩
  | false =>
    refine (begin_yes q wq d.length pc w h1 hw hq).mono ?_
    rintro e w' ⟨rfl, g1, v', g2, g3⟩
    obtain rfl := h5 rfl
    exact ⟨rfl, ⟨pc, g1, h2, h3, h4, fun e => by cases e⟩, v', magicBits, g2, by simp [sofar, fullBits_nil], g3⟩
end Go.Proofs.YtnpnaglgllcpfaaGreat

/- What the program's Encoder answers: Write. -/
namespace Go.Proofs.YtnpnaglgllcpfaaGreat
set_option maxRecDepth 100000
open Go.RowKit

/-- How Write of an open Encoder ends. -/
def WriteAns (w w' : World) (q : Nat) (d p : List UInt8) (b : Bool) (r : Ending) : Prop :=
  OneKept w w' q ∧ EncAt w' q (d ++ p) true ∧ ∃ L vy, r = .returned (.tuple #[vy, .int .i64 0]) ∧ sofar b d ++ L = magicBits ++ fullBits parseOf (d ++ p) ∧ OwnB w' w.heap.size vy (toBytes L)

set_option maxHeartbeats 2000000 in
theorem ewrite_calls (q : Nat) (d p : List UInt8) (b : Bool) (pa : Option Addr) (pc : Nat) (w : World) (h : EncAt w q d b) (hp : BytesAt w pa p) (hpq : ∀ k off, pa = some ⟨k, off, none⟩ → k ≠ q) (hl : d.length + p.length ≤ 2048) :
    Calls Tryz.prog 44 #[.pointer (some ⟨q, 0, none⟩), .slice pa p.length pc] w fun r w' => WriteAns w w' q d p b r := by
  have hq := h.lt
  have HE : Hid (EncAt w q d b) := h
  have HP : Hid (BytesAt w pa p) := hp
  have HPQ : Hid (∀ k off, pa = some ⟨k, off, none⟩ → k ≠ q) := hpq
  obtain ⟨⟨c0, c1, c2⟩, _⟩ : (w.cell? ⟨q, 0, none⟩ = some (.bool true) ∧ w.cell? ⟨q, 1, none⟩ = some (.bool b) ∧ w.cell? ⟨q, 2, none⟩ = some (.int .i64 d.length)) ∧ _ := by
    obtain ⟨pc, h1, _⟩ := h
    exact h1.cells
  have hlp : ¬ (2048 : Int) - (d.length : Int) < (p.length : Int) := by omega
  have hd : d.length ≤ 2048 := by omega
  clear h hp hpq
  go_enter Tryz.func44, Tryz.ntmps44
  go_wp2_with fail
  refine (begin_calls q w.heap.size d b _ (EncAt.kept HE.out (Below.heap_alloc _ _ _ hq)) (wr_new w) hq).mono ?_
  rintro r w1 ⟨rfl, he1, v1, L1, hw1, hL1, hk1⟩
  have hs1 := hk1.size
  simp at hs1
  have HE1 : Hid (EncAt w1 q d true) := he1
  have HW1 : Hid (WrAt w1 w.heap.size w.heap.size v1 L1) := hw1
  have HL1 : Hid _ := hL1
  have HK1 : Hid (OneKept w w1 q) := ⟨hk1.os, hk1.tape, hk1.output, by omega, fun k h1 h2 => (hk1.heap k (by simp; omega) (by simp; omega)).trans (Below.heap_alloc _ _ _ h1)⟩
  clear he1 hw1 hL1 hk1
  go_wp2_with fail
  go_loopw [33] (fun i wr => ∃ (k : Nat) (v : Value) (L : List Bool), k ≤ p.length ∧ i = .int .i64 k ∧ Hid (EncAt wr q (d ++ p.take k) true) ∧ Hid (WrAt wr w.heap.size w.heap.size v L) ∧ Hid (sofar b d ++ L = magicBits ++ fullBits parseOf (d ++ p.take k)) ∧ Hid (OneKept w wr q)) (fun i _ => p.length - (intOf i).toNat)
  case atStart => exact ⟨0, v1, L1, by omega, rfl, by rw [List.take_zero, List.append_nil]; exact HE1, HW1, by rw [List.take_zero, List.append_nil]; exact HL1, HK1⟩
  case round =>
    clear HE1 HW1 HL1 HK1
    obtain ⟨k, v, L, hk, rfl, HEk, HWk, HLk, HKk⟩ := hrel
    have hsk := HKk.out.size
    have hwl := HWk.out.lt
    by_cases hlt : k < p.length
    · obtain ⟨pb, off, rfl, hpl, hpbq, hcell⟩ : ∃ pb off, pa = some ⟨pb, off, none⟩ ∧ pb < w.heap.size ∧ pb ≠ q ∧ wr.cell? ⟨pb, off + k, none⟩ = some (.int .u8 (p.getD k 0).toNat) := by
        rcases HP.out with h | ⟨pb, off, h1, h2⟩
        · rw [h] at hlt; simp at hlt
        · have hpl : pb < w.heap.size := World.block_lt_of_cell? w _ (h2 k hlt)
          have hpq := HPQ.out pb off h1
          exact ⟨pb, off, h1, hpl, hpq, by rw [World.cell?_of_block (HKk.out.heap pb hpl hpq)]; exact h2 k hlt⟩
      obtain ⟨pcs, e1, e2, e3, e4, _⟩ := HEk.out
      have HTK : Hid (p.take (k + 1) = p.take k ++ [p.getD k 0]) := by show _ = _; rw [List.take_succ_eq_append_getElem hlt]; simp [List.getD, hlt]
      have hdl : (d ++ p.take k).length = d.length + k := by rw [List.length_append, List.length_take]; omega
      have hvq : v.ownBlock ≠ some q := fun e => by have := (World.ownsRow.lt HWk.out.own q e).1; omega
      have hfb := fullBits_le (d ++ p.take k)
      have hLl : (sofar b d).length + L.length = 24 + (fullBits parseOf (d ++ p.take k)).length := by
        have := congrArg List.length HLk.out
        rw [List.length_append, List.length_append, magic_length] at this
        exact this
      have hLf : L.length % 8 = 0 := by
        have h1 := sofar_full b d
        have h2 := fullBits_fits parseOf (d ++ p.take k)
        omega
      have HTC : Hid _ := take_calls q w.heap.size w.heap.size v L (d ++ p.take k).length pcs (p.getD k 0) wr e1 e2 (by omega) HWk.out (by omega) (by omega) hLf (by omega) hvq
      have HNX : Hid _ := taken_is (x := p.getD k 0) e2 e3 HLk.out
      have HPM : Hid _ := (piece_more (x := p.getD k 0) e2 e3).1
      have HPL : Hid _ := e2
      clear hfb hLl hLf e1 e2 e3 e4 HLk
      have hb0 : (0 : Int) ≤ (k : Int) ∧ (k : Int) < (p.length : Int) := by omega
      have HD1 : Hid ((d ++ p.take k ++ [p.getD k 0]).length = (d ++ p.take k).length + 1) := by show _ = _; rw [List.length_append]; rfl
      have HD2 : Hid (d ++ p.take (k + 1) = d ++ p.take k ++ [p.getD k 0]) := by show _ = _; rw [HTK.out, List.append_assoc]
      have HDL : Hid ((d ++ p.take k).length = d.length + k) := hdl
      clear hdl
      generalize d ++ p.take k = dk at *
      generalize p.getD k 0 = x at *
      go_wp2_with fail
      refine Calls.mono HTC.out ?_
      rintro r w2 ⟨rfl, hb2, v2, hw2, hm2, hk2⟩
      have hs2 := hk2.size
      have HE2 : Hid (EncAt w2 q (dk ++ [x]) true) := ⟨_, by rw [HD1.out]; exact hb2, by rw [List.length_set]; exact HPL.out, HPM.out, by rw [HD1.out, HDL.out]; omega, fun h => by cases h⟩
      have HW2 : Hid _ := hw2
      have HK2 : Hid (OneKept w w2 q) := ⟨hk2.os.trans HKk.out.os, hk2.tape.trans HKk.out.tape, hk2.output.trans HKk.out.output, by omega, fun i h1 h2 => (hk2.heap i (by omega) (fun hm => by
        simp only [List.mem_cons, Option.mem_toList] at hm
        rcases hm with rfl | rfl | hm
        · exact h2 rfl
        · omega
        · have := (World.ownsRow.lt HWk.out.own i hm).1
          omega)).trans (HKk.out.heap i h1 h2)⟩
      clear hb2 hw2 hm2 hk2 HTC
      go_wp2
      go_roundw
      case rel => exact ⟨k + 1, v2, _, by omega, by go_num, by rw [HD2.out]; exact HE2, HW2, by rw [HD2.out]; exact HNX, HK2⟩
      case measure => simp [intOf]; omega
    · have hke : k = p.length := by omega
      have HF : Hid (d ++ p.take k = d ++ p) := by show _ = _; rw [hke, List.take_length]
      have hfull : L.length % 8 = 0 := by
        have h1 := sofar_full b d
        have h2 := fullBits_fits parseOf (d ++ p.take k)
        have := congrArg List.length HLk.out
        rw [List.length_append, List.length_append, magic_length] at this
        omega
      go_wp2_with fail
      refine (bytes_calls _ _ _ _ _ HWk.out).mono ?_
      rintro r w2 ⟨rfl, rfl⟩
      obtain ⟨vo, vc, rfl⟩ := OwnB.form HWk.out.own
      go_wp2
      go_ret2
      exact ⟨HKk.out, by rw [← HF.out]; exact HEk.out, L, _, rfl, by rw [← HF.out]; exact HLk.out, HWk.out.own⟩
end Go.Proofs.YtnpnaglgllcpfaaGreat
