/-
  The law Shorter: plain facts. Right tokens never cost more than literals; a frame of less cost is never longer.
-/
import Derived.Test.YtnpnaglgllcpfabBack0
import Derived.Test.YtnpnaglgllcpfabKr
namespace Go.Proofs.Ytnpnaglgllcpfab
set_option maxRecDepth 100000
open Go.RowKit

theorem log_below (m : Nat) (h : 1 ≤ m) : Nat.log2 m + 1 ≤ m := by
  have h1 : Nat.log2 m < m := (Nat.log2_lt (by omega)).2 Nat.lt_two_pow_self
  omega
theorem Tok.cost_nine (t : Tok) (m : Int) (h : Tok.fitsB t m = true) : (Tok.cost t : Int) ≤ 9 * t.len := by
  rw [Tok.fits_iff] at h
  unfold Tok.cost Tok.numLen
  split
  · omega
  · have a1 := log_below (t.len - 1).toNat (by omega)
    have a2 : Nat.log2 t.dist.toNat < 6 := (Nat.log2_lt (by omega)).2 (by omega)
    omega
theorem Tok.costs_nine : ∀ (ts : List Tok) (out o : List UInt8), Tok.expand out ts = some o → Tok.costs ts + 9 * out.length ≤ 9 * o.length
  | [], out, o, e => by simp [Tok.expand] at e; subst e; simp [Tok.costs]
  | t :: ts, out, o, e => by
    simp only [Tok.expand] at e
    split at e
    · rename_i hf
      have h1 := Tok.costs_nine ts _ o e
      have h2 := Tok.step_length out t _ hf
      have h3 := Tok.cost_nine t _ hf
      simp only [Tok.costs, List.map_cons, List.sum_cons] at *
      omega
    · cases e
theorem fill_round (L : List Bool) : (fill L).length = (L.length + 7) / 8 * 8 := by simp [fill, padN]; omega
theorem frame_length (ts : List Tok) (p : List UInt8) : (frameBits ts p).length = ((numBits (p.length + 1)).length + Tok.costs ts + 7) / 8 * 8 + 16 := by
  unfold frameBits
  simp only [List.length_append, bin_length, fill_round, bitsOf_length]
/-- Right tokens of each piece of the data. -/
def Rivals (data : List UInt8) (ps : List (List Tok)) (n : Nat) : Prop := ps.length = n ∧ ∀ i, i < n → Tok.expand [] (ps.getD i []) = some (pieceAt data i)
theorem Rivals.nil (data : List UInt8) : Rivals data [] 0 := ⟨rfl, fun i hi => by omega⟩
theorem Rivals.snoc {data : List UInt8} {ps : List (List Tok)} {n : Nat} {ts : List Tok} (h : Rivals data ps n) (ht : Tok.expand [] ts = some (pieceAt data n)) : Rivals data (ps ++ [ts]) (n + 1) := by
  obtain ⟨hl, h⟩ := h
  refine ⟨by simp [hl], fun i hi => ?_⟩
  rcases Nat.lt_or_ge i n with h1 | h1
  · have e : (ps ++ [ts]).getD i [] = ps.getD i [] := by simp [List.getD, List.getElem?_append_left (by omega : i < ps.length)]
    rw [e]; exact h i h1
  · have hi' : i = ps.length := by omega
    subst hi'
    have e : (ps ++ [ts]).getD ps.length [] = ts := by simp [List.getD]
    rw [e, hl]; exact ht
theorem Rivals.frames {data : List UInt8} {ps : List (List Tok)} {f : List UInt8 → List Tok} (h : Rivals data ps (cutN data)) (hf : Chosen f) : ∀ k, k ≤ cutN data →
    (Proofs.Ytnpnaglgllcpfab.frames ps k).length ≤ 620 * k ∧ (Proofs.Ytnpnaglgllcpfab.frames (toksOf f data) k).length ≤ (Proofs.Ytnpnaglgllcpfab.frames ps k).length
  | 0, _ => by simp [Proofs.Ytnpnaglgllcpfab.frames]
  | k + 1, hk => by
    obtain ⟨h1, h2⟩ := h.frames hf k (by omega)
    have hl := h.1
    have hx := h.2 k (by omega)
    have hple := piece_le data k
    obtain ⟨c1, c2, _⟩ := chosen_made hf (pieceAt data k) hple
    have hm : made (ps.getD k []) = pieceAt data k := by unfold made; rw [hx]; rfl
    have hbc := ((bestB_iff _ _).1 (hf _ hple)).2
    have hle := least_le (pieceAt data k) hple _ hx _ _ (least_is _)
    have hn := Tok.costs_nine _ _ _ hx
    have h5 := numBits_short ((pieceAt data k).length + 1) (by omega)
    rw [frames_succ ps k (by omega), frames_succ (toksOf f data) k (by rw [toksOf_length]; omega), List.length_append, List.length_append, toksOf_getD f data k (by omega), c2, hm, frame_length, frame_length]
    simp only [List.length_nil] at hn
    have hcost : Tok.costs (f (pieceAt data k)) ≤ Tok.costs (ps.getD k []) := by rw [hbc]; exact hle
    generalize (numBits ((pieceAt data k).length + 1)).length = A at *
    generalize Tok.costs (f (pieceAt data k)) = B at *
    generalize Tok.costs (ps.getD k []) = C at *
    omega
theorem Rivals.ok {data : List UInt8} {ps : List (List Tok)} (h : Rivals data ps (cutN data)) : ∀ i, i < ps.length → okAt ps.length i (ps.getD i []) = true := fun i hi => by
  rw [h.1] at hi ⊢
  refine okAt_made (h.2 i hi) ?_
  have hl := pieceAt_length data i
  unfold cutN at *
  omega
theorem Rivals.made {data : List UInt8} {ps : List (List Tok)} (h : Rivals data ps (cutN data)) : ps.flatMap Proofs.Ytnpnaglgllcpfab.made = data := by
  have : ps.map Proofs.Ytnpnaglgllcpfab.made = cutP data := by
    refine List.ext_getElem (by rw [List.length_map, cutP_length, h.1]) fun i h1 h2 => ?_
    rw [List.length_map] at h1
    have hx := h.2 i (by rw [← h.1]; exact h1)
    have e : ps.getD i [] = ps[i] := by simp [List.getD, h1]
    rw [e] at hx
    rw [List.getElem_map]
    have e2 := cutP_getD data i (by rw [← h.1]; exact h1)
    rw [show (cutP data).getD i [] = (cutP data)[i] by simp [List.getD, h2]] at e2
    rw [e2]
    unfold Proofs.Ytnpnaglgllcpfab.made
    rw [hx]
    rfl
  rw [List.flatMap_def, this, cutP_join]
/-- What Pack writes of them is read again; Compress's stream is no longer. -/
theorem Rivals.read {data : List UInt8} {ps : List (List Tok)} {f : List UInt8 → List Tok} (h : Rivals data ps (cutN data)) (hf : Chosen f) (hd : data.length ≤ 2048) :
    (rRead (toBytes (magicBits ++ Proofs.Ytnpnaglgllcpfab.frames ps ps.length ++ endBits))).1 = 0 ∧ (rRead (toBytes (magicBits ++ Proofs.Ytnpnaglgllcpfab.frames ps ps.length ++ endBits))).2.2.1 = data ∧
      (streamOf f data).length ≤ (toBytes (magicBits ++ Proofs.Ytnpnaglgllcpfab.frames ps ps.length ++ endBits)).length ∧ (toBytes (magicBits ++ Proofs.Ytnpnaglgllcpfab.frames ps ps.length ++ endBits)).length ≤ 4096 := by
  obtain ⟨h1, h2⟩ := h.frames hf (cutN data) (Nat.le_refl _)
  have hc : cutN data ≤ 32 := by unfold cutN; omega
  have hl : (streamBits ps).length ≤ 32768 := by
    unfold streamBits
    simp only [List.length_append, magic_length, endBits_length]
    rw [h.1]
    omega
  obtain ⟨en, he⟩ := rRead_stream ps h.ok hl
  rw [h.made] at he
  have hb := toBytes_length (streamBits ps)
  have hb2 := toBytes_length (streamBits (toksOf f data))
  have h3 : (streamBits (toksOf f data)).length ≤ (streamBits ps).length := by
    unfold streamBits
    simp only [List.length_append, magic_length, endBits_length]
    rw [h.1, toksOf_length]
    omega
  have h4 : (streamOf f data).length ≤ (toBytes (streamBits ps)).length := by
    unfold streamOf
    rw [hb, hb2]
    omega
  have h5 : (toBytes (streamBits ps)).length ≤ 4096 := by rw [hb]; omega
  unfold streamBits at he h4 h5
  exact ⟨by rw [he], by rw [he], h4, h5⟩
end Go.Proofs.Ytnpnaglgllcpfab
