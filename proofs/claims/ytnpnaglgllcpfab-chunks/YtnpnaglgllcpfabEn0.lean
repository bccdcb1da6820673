/-
  Where the frames of a stream end; what an Encoder has laid down: plain facts, of no program.
-/
import Derived.Test.YtnpnaglgllcpfabStA
namespace Go.Proofs.Ytnpnaglgllcpfab
set_option maxRecDepth 100000

theorem frames_zero (ps : List (List Tok)) : frames ps 0 = [] := by simp [frames]
theorem frames_cons (ts : List Tok) (qs : List (List Tok)) (k : Nat) : frames (ts :: qs) (k + 1) = frameBits ts (made ts) ++ frames qs k := by simp [frames]
theorem rMain_ends (L : List Bool) : ∀ (qs ps : List (List Tok)) (f : Nat) (data : List UInt8) (ends : List Nat) (b : Nat), (∀ i, i < qs.length → okAt (ps.length + qs.length) (ps.length + i) (qs.getD i []) = true) → (data.length = 64 * ps.length ∨ qs = []) → qs.length + 1 ≤ f → L.length = b + (framesOf qs ++ endBits).length →
    rMain L f ps data ends (framesOf qs ++ endBits) = (0, ps ++ qs, data ++ qs.flatMap made, ends ++ (List.range qs.length).map fun i => (b + (frames qs (i + 1)).length) / 8)
  | [], ps, f, data, ends, b, _, _, hf, _ => by
    obtain ⟨f, rfl⟩ : ∃ f', f = f' + 1 := ⟨f - 1, by simp at hf; omega⟩
    have := rMain_stop L f ps data ends
    simpa [framesOf] using this
  | ts :: qs, ps, f, data, ends, b, hok, hd, hf, hL => by
    obtain ⟨f, rfl⟩ : ∃ f', f = f' + 1 := ⟨f - 1, by simp at hf; omega⟩
    replace hd : data.length = 64 * ps.length := hd.resolve_right (by simp)
    have h0 := okAt_facts (hok 0 (by simp))
    simp only [List.getD_cons_zero] at h0
    obtain ⟨h1, h2, h3, h4⟩ := h0
    have e : framesOf (ts :: qs) ++ endBits = frameBits ts (made ts) ++ (framesOf qs ++ endBits) := by simp [framesOf]
    have hR : (framesOf qs ++ endBits).length % 8 = 0 := by
      have := framesOf_full qs
      rw [List.length_append, endBits_length]; omega
    rw [e, List.length_append] at hL
    have hLl : L.length - (framesOf qs ++ endBits).length = b + (frameBits ts (made ts)).length := by omega
    rw [e, rMain_frame L f ps data ends ts (made ts) _ h1 h2 h3 hR hd]
    have hen := rMain_ends L qs (ps ++ [ts]) f (data ++ made ts) (ends ++ [(L.length - (framesOf qs ++ endBits).length) / 8]) (b + (frameBits ts (made ts)).length) (fun i hi => by
      have := hok (i + 1) (by simp; omega)
      rw [List.getD_cons_succ] at this
      simp only [List.length_append, List.length_cons, List.length_nil] at this ⊢
      rwa [show ps.length + (0 + 1) + qs.length = ps.length + (qs.length + 1) by omega, show ps.length + (0 + 1) + i = ps.length + (i + 1) by omega]) (by
      rcases h4 with h4 | h4
      · left; simp; omega
      · right; exact List.eq_nil_of_length_eq_zero (by simp only [List.length_cons] at h4; omega)) (by simp at hf; omega) (by omega)
    rw [hen, hLl]
    have e2 : (List.range (ts :: qs).length).map (fun i => (b + (frames (ts :: qs) (i + 1)).length) / 8) = (b + (frameBits ts (made ts)).length) / 8 :: (List.range qs.length).map (fun i => (b + (frameBits ts (made ts)).length + (frames qs (i + 1)).length) / 8) := by
      rw [List.length_cons, List.range_succ_eq_map, List.map_cons, List.map_map]
      congr 1
      · rw [frames_cons, frames_zero]; simp
      · apply List.map_congr_left
        intro i _
        simp only [Function.comp]
        rw [frames_cons, List.length_append]
        congr 1; omega
    rw [e2]
    simp

theorem rRead_ends (ps : List (List Tok)) (hok : ∀ i, i < ps.length → okAt ps.length i (ps.getD i []) = true) (hl : (streamBits ps).length ≤ 32768) :
    rRead (toBytes (streamBits ps)) = (0, ps, ps.flatMap made, (List.range ps.length).map fun i => (24 + (frames ps (i + 1)).length) / 8) := by
  have hf := streamBits_full ps
  have hb : bitsIn (toBytes (streamBits ps)) = streamBits ps := bitsIn_toBytes ((streamBits ps).length / 8) _ (by omega)
  have hlen := toBytes_length (streamBits ps)
  unfold rRead
  rw [if_neg (by omega), hb]
  have hm : rMagic [80, 90, 49] (streamBits ps) = .ok (framesOf ps ++ endBits) := by
    unfold streamBits
    rw [frames_all, List.append_assoc, rMagic_bits]
  rw [hm]
  simp only
  have hcount : ∀ qs : List (List Tok), qs.length ≤ (framesOf qs).length := fun qs => by
    induction qs with
    | nil => simp
    | cons t qs ih =>
      have : 1 ≤ (frameBits t (made t)).length := by
        rw [frame_split]
        unfold tailBits
        simp only [List.length_append, bin_length]
        omega
      simp only [framesOf, List.flatMap_cons, List.length_append, List.length_cons] at *
      omega
  have hc : ps.length + 1 ≤ (streamBits ps).length + 1 := by
    have := hcount ps
    unfold streamBits
    rw [frames_all, List.length_append, List.length_append]
    omega
  have hen := rMain_ends (streamBits ps) ps [] ((streamBits ps).length + 1) [] [] 24 (fun i hi => by simpa using hok i hi) (.inl rfl) hc (by
    unfold streamBits
    rw [frames_all, List.length_append, List.length_append, magic_length, List.length_append]; omega)
  simpa using hen

/-- The frames of the full pieces of data. -/
def fullBits (f : List UInt8 → List Tok) (data : List UInt8) : List Bool := (List.range (data.length / 64)).flatMap fun i => frameBits (f (pieceAt data i)) (pieceAt data i)
theorem fullBits_nil (f : List UInt8 → List Tok) : fullBits f [] = [] := by simp [fullBits]
theorem pieceAt_append (d p : List UInt8) (i : Nat) (h : i < d.length / 64) : pieceAt (d ++ p) i = pieceAt d i := by
  unfold pieceAt
  rw [List.drop_append_of_le_length (by omega), List.take_append_of_le_length (by rw [List.length_drop]; omega)]
theorem fullBits_append (f : List UInt8 → List Tok) (d p : List UInt8) : fullBits f (d ++ p) = fullBits f d ++ (List.range ((d ++ p).length / 64 - d.length / 64)).flatMap fun i => frameBits (f (pieceAt (d ++ p) (d.length / 64 + i))) (pieceAt (d ++ p) (d.length / 64 + i)) := by
  unfold fullBits
  have hle : d.length / 64 ≤ (d ++ p).length / 64 := by rw [List.length_append]; omega
  conv => lhs; rw [show (d ++ p).length / 64 = d.length / 64 + ((d ++ p).length / 64 - d.length / 64) by omega, List.range_add, List.flatMap_append, List.flatMap_map]
  congr 1
  have : ∀ (l : List Nat), (∀ i ∈ l, i < d.length / 64) → l.flatMap (fun i => frameBits (f (pieceAt (d ++ p) i)) (pieceAt (d ++ p) i)) = l.flatMap (fun i => frameBits (f (pieceAt d i)) (pieceAt d i)) := by
    intro l
    induction l with
    | nil => intro _; rfl
    | cons i l ih =>
      intro hm
      rw [List.flatMap_cons, List.flatMap_cons, pieceAt_append d p i (hm i (by simp)), ih (fun j hj => hm j (by simp [hj]))]
  exact this _ (fun i hi => by simpa using hi)
/-- One byte more that fills no piece. -/
theorem fullBits_some (f : List UInt8 → List Tok) (d : List UInt8) (b : UInt8) (h : (d.length + 1) % 64 ≠ 0) : fullBits f (d ++ [b]) = fullBits f d := by
  rw [fullBits_append]
  have : (d ++ [b]).length / 64 - d.length / 64 = 0 := by rw [List.length_append]; simp only [List.length_cons, List.length_nil]; omega
  rw [this]
  simp
/-- The last piece of some data, a full one. -/
theorem pieceAt_last (d : List UInt8) (b : UInt8) (h : (d.length + 1) % 64 = 0) : pieceAt (d ++ [b]) (d.length / 64) = d.drop (64 * (d.length / 64)) ++ [b] := by
  unfold pieceAt
  rw [List.drop_append_of_le_length (by omega), List.take_of_length_le (by rw [List.length_append, List.length_drop]; simp only [List.length_cons, List.length_nil]; omega)]
/-- One byte more that fills a piece. -/
theorem fullBits_full (f : List UInt8 → List Tok) (d : List UInt8) (b : UInt8) (h : (d.length + 1) % 64 = 0) : fullBits f (d ++ [b]) = fullBits f d ++ frameBits (f (d.drop (64 * (d.length / 64)) ++ [b])) (d.drop (64 * (d.length / 64)) ++ [b]) := by
  rw [fullBits_append]
  have : (d ++ [b]).length / 64 - d.length / 64 = 1 := by rw [List.length_append]; simp only [List.length_cons, List.length_nil]; omega
  rw [this, ← pieceAt_last d b h]
  simp [List.range_succ]
theorem fullBits_fits (f : List UInt8 → List Tok) (data : List UInt8) : (fullBits f data).length % 8 = 0 := by
  unfold fullBits
  have : ∀ l : List Nat, (l.flatMap fun i => frameBits (f (pieceAt data i)) (pieceAt data i)).length % 8 = 0 := by
    intro l
    induction l with
    | nil => rfl
    | cons i l ih =>
      rw [List.flatMap_cons, List.length_append]
      have := frameBits_full (f (pieceAt data i)) (pieceAt data i)
      omega
  exact this _
/-- The frames of full pieces are those of the stream, so far. -/
theorem frames_full_is {f : List UInt8 → List Tok} (hf : Chosen f) (data : List UInt8) : frames (toksOf f data) (data.length / 64) = fullBits f data := by
  have key : ∀ n, n ≤ data.length / 64 → frames (toksOf f data) n = (List.range n).flatMap fun i => frameBits (f (pieceAt data i)) (pieceAt data i) := by
    intro n
    induction n with
    | zero => intro _; simp [frames_zero]
    | succ n ih =>
      intro hn
      have hlt : n < cutN data := by unfold cutN; omega
      rw [frames_succ _ n (by rw [toksOf_length]; exact hlt), ih (by omega), toksOf_getD f data n hlt, (chosen_made hf _ (piece_le data n)).2.1, List.range_succ]
      simp
  exact key _ (Nat.le_refl _)
/-- What is left behind the full pieces, and the stream whole. -/
theorem stream_is {f : List UInt8 → List Tok} (hf : Chosen f) (data : List UInt8) : streamBits (toksOf f data) = magicBits ++ fullBits f data ++ (if data.length % 64 = 0 then [] else frameBits (f (data.drop (64 * (data.length / 64)))) (data.drop (64 * (data.length / 64)))) ++ endBits := by
  unfold streamBits
  congr 1
  rw [List.append_assoc]
  congr 1
  rw [← frames_full_is hf, toksOf_length]
  by_cases h0 : data.length % 64 = 0
  · rw [if_pos h0, show cutN data = data.length / 64 by unfold cutN; omega]; simp
  · have hlt : data.length / 64 < cutN data := by unfold cutN; omega
    rw [if_neg h0, show cutN data = data.length / 64 + 1 by unfold cutN; omega, frames_succ _ _ (by rw [toksOf_length]; exact hlt), toksOf_getD f data _ hlt, (chosen_made hf _ (piece_le data _)).2.1]
    have : pieceAt data (data.length / 64) = data.drop (64 * (data.length / 64)) := by
      unfold pieceAt
      exact List.take_of_length_le (by rw [List.length_drop]; omega)
    rw [this]
/-- Up to where a stream is certain. -/
def upTo (f : List UInt8 → List Tok) (data : List UInt8) : Nat := (24 + (fullBits f data).length) / 8
theorem stream_take {f : List UInt8 → List Tok} (hf : Chosen f) (data : List UInt8) : upTo f data ≤ (streamOf f data).length ∧ (streamOf f data).take (upTo f data) = toBytes (magicBits ++ fullBits f data) := by
  have h1 := fullBits_fits f data
  have h2 : (magicBits ++ fullBits f data).length % 8 = 0 := by rw [List.length_append, magic_length]; omega
  have hl : (toBytes (magicBits ++ fullBits f data)).length = upTo f data := by rw [toBytes_length, List.length_append, magic_length]; rfl
  have e : streamOf f data = toBytes (magicBits ++ fullBits f data) ++ toBytes ((if data.length % 64 = 0 then [] else frameBits (f (data.drop (64 * (data.length / 64)))) (data.drop (64 * (data.length / 64)))) ++ endBits) := by
    unfold streamOf
    rw [stream_is hf, List.append_assoc, toBytes_append _ _ h2]
  rw [e]
  refine ⟨by rw [List.length_append, hl]; omega, ?_⟩
  rw [← hl, List.take_left']
  rfl
/-- What is read of a stream: where the frames end too. -/
theorem stream_ends {f : List UInt8 → List Tok} (hf : Chosen f) (data : List UInt8) (hd : data.length ≤ 2048) : rRead (streamOf f data) = (0, toksOf f data, data, (List.range (cutN data)).map fun i => (24 + (frames (toksOf f data) (i + 1)).length) / 8) := by
  have hn : cutN data ≤ 32 := by unfold cutN; omega
  have := rRead_ends (toksOf f data) (toks_ok hf data) (by
    have := frames_chosen hf data _ (Nat.le_refl _)
    unfold streamBits
    rw [List.length_append, List.length_append, endBits_length, magic_length]
    rw [toksOf_length] at this ⊢
    omega)
  rw [toks_made hf, toksOf_length] at this
  exact this
end Go.Proofs.Ytnpnaglgllcpfab
