/-
  A whole stream that was written down is read again: plain facts, of no program.
-/
import Derived.Test.YtnpnaglgllcpfabRound
namespace Go.Proofs.Ytnpnaglgllcpfab
set_option maxRecDepth 100000

def framesOf (ps : List (List Tok)) : List Bool := ps.flatMap fun ts => frameBits ts (made ts)
theorem frames_all (ps : List (List Tok)) : frames ps ps.length = framesOf ps := by unfold frames framesOf; rw [List.take_length]
theorem framesOf_full (ps : List (List Tok)) : (framesOf ps).length % 8 = 0 := by
  rw [← frames_all]; exact frames_full ps _
theorem endBits_length : endBits.length = 8 := rfl

theorem okAt_facts {n k : Nat} {ts : List Tok} (h : okAt n k ts = true) : Tok.expand [] ts = some (made ts) ∧ 1 ≤ (made ts).length ∧ (made ts).length ≤ 64 ∧ ((made ts).length = 64 ∨ k + 1 = n) := by
  obtain ⟨out, h1, h2, h3, _⟩ := ok_facts (okAt_ok h)
  rw [h2]
  refine ⟨h1, ?_, h3, ?_⟩
  · unfold okAt at h
    simp [h2] at h
    omega
  · unfold okAt at h
    simp [h2] at h
    omega

theorem rMain_frames (L : List Bool) : ∀ (qs ps : List (List Tok)) (f : Nat) (data : List UInt8) (ends : List Nat), (∀ i, i < qs.length → okAt (ps.length + qs.length) (ps.length + i) (qs.getD i []) = true) → (data.length = 64 * ps.length ∨ qs = []) → qs.length + 1 ≤ f →
    ∃ en, rMain L f ps data ends (framesOf qs ++ endBits) = (0, ps ++ qs, data ++ qs.flatMap made, en)
  | [], ps, f, data, ends, _, _, hf => by
    obtain ⟨f, rfl⟩ : ∃ f', f = f' + 1 := ⟨f - 1, by simp at hf; omega⟩
    refine ⟨ends, ?_⟩
    have := rMain_stop L f ps data ends
    simpa [framesOf] using this
  | ts :: qs, ps, f, data, ends, hok, hd, hf => by
    obtain ⟨f, rfl⟩ : ∃ f', f = f' + 1 := ⟨f - 1, by simp at hf; omega⟩
    replace hd : data.length = 64 * ps.length := hd.resolve_right (by simp)
    have h0 := okAt_facts (hok 0 (by simp))
    simp only [List.getD_cons_zero] at h0
    obtain ⟨h1, h2, h3, h4⟩ := h0
    have e : framesOf (ts :: qs) ++ endBits = frameBits ts (made ts) ++ (framesOf qs ++ endBits) := by simp [framesOf]
    have hR : (framesOf qs ++ endBits).length % 8 = 0 := by
      have := framesOf_full qs
      rw [List.length_append, endBits_length]; omega
    rw [e, rMain_frame L f ps data ends ts (made ts) _ h1 h2 h3 hR hd]
    obtain ⟨en, hen⟩ := rMain_frames L qs (ps ++ [ts]) f (data ++ made ts) (ends ++ [(L.length - (framesOf qs ++ endBits).length) / 8]) (fun i hi => by
      have := hok (i + 1) (by simp; omega)
      rw [List.getD_cons_succ] at this
      simp only [List.length_append, List.length_cons, List.length_nil] at this ⊢
      rwa [show ps.length + (0 + 1) + qs.length = ps.length + (qs.length + 1) by omega, show ps.length + (0 + 1) + i = ps.length + (i + 1) by omega]) (by
      rcases h4 with h4 | h4
      · left; simp; omega
      · right; exact List.eq_nil_of_length_eq_zero (by simp only [List.length_cons] at h4; omega)) (by simp at hf; omega)
    exact ⟨en, by rw [hen]; simp⟩

theorem rMagic_bits (R : List Bool) : rMagic [80, 90, 49] (magicBits ++ R) = .ok R := by
  have h : ∀ (b : Nat) (bs : List Nat) (X : List Bool), b < 256 → rMagic (b :: bs) (bin b 8 ++ X) = rMagic bs X := fun b bs X hb => by
    simp only [rMagic]
    rw [if_neg (by rw [List.length_append, bin_length]; omega), List.take_left' (bin_length _ 8), List.drop_left' (bin_length _ 8), bin_val, if_pos (by omega)]
  unfold magicBits
  rw [List.append_assoc, List.append_assoc, h 80 _ _ (by omega), h 90 _ _ (by omega), h 49 _ _ (by omega)]
  rfl

def streamBits (ps : List (List Tok)) : List Bool := magicBits ++ frames ps ps.length ++ endBits
theorem streamBits_full (ps : List (List Tok)) : (streamBits ps).length % 8 = 0 := by
  have := frames_full ps ps.length
  unfold streamBits
  rw [List.length_append, List.length_append, endBits_length, magic_length]
  omega

/-- What Pack writes is read again. -/
theorem rRead_stream (ps : List (List Tok)) (hok : ∀ i, i < ps.length → okAt ps.length i (ps.getD i []) = true) (hl : (streamBits ps).length ≤ 32768) :
    ∃ en, rRead (toBytes (streamBits ps)) = (0, ps, ps.flatMap made, en) := by
  have hf := streamBits_full ps
  have hb : bitsIn (toBytes (streamBits ps)) = streamBits ps := bitsIn_toBytes ((streamBits ps).length / 8) _ (by omega)
  have hlen := toBytes_length (streamBits ps)
  unfold rRead
  rw [if_neg (by omega), hb]
  have hm : rMagic [80, 90, 49] (streamBits ps) = .ok (framesOf ps ++ endBits) := by
    unfold streamBits
    rw [frames_all, List.append_assoc, rMagic_bits]
  rw [hm]
  simp only
  have hcount : ∀ qs : List (List Tok), qs.length ≤ (framesOf qs).length := fun qs => by
    induction qs with
    | nil => simp
    | cons t qs ih =>
      have : 1 ≤ (frameBits t (made t)).length := by
        rw [frame_split]
        unfold tailBits
        simp only [List.length_append, bin_length]
        omega
      simp only [framesOf, List.flatMap_cons, List.length_append, List.length_cons] at *
      omega
  have hc : ps.length + 1 ≤ (streamBits ps).length + 1 := by
    have := hcount ps
    unfold streamBits
    rw [frames_all, List.length_append, List.length_append]
    omega
  obtain ⟨en, hen⟩ := rMain_frames (streamBits ps) ps [] ((streamBits ps).length + 1) [] [] (fun i hi => by simpa using hok i hi) (.inl rfl) hc
  exact ⟨en, by simpa using hen⟩
end Go.Proofs.Ytnpnaglgllcpfab
