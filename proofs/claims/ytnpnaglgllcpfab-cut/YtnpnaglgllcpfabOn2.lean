/-
  The stream of data, cut, with a byte more, with other bytes: what is read of it: plain facts, of no program.
-/
import Derived.Test.YtnpnaglgllcpfabOn1
namespace Go.Proofs.Ytnpnaglgllcpfab
set_option maxRecDepth 100000

/-- The frames of a stream. -/
def fsOf (ps : List (List Tok)) : List (List Tok × List UInt8) := ps.map fun ts => (ts, made ts)
theorem fsOf_data (ps : List (List Tok)) : dataOf (fsOf ps) = ps.flatMap made := by
  simp [fsOf, dataOf, List.flatMap_def, Function.comp_def]
theorem fsOf_take (ps : List (List Tok)) (j : Nat) : (fsOf ps).take j = fsOf (ps.take j) := by simp [fsOf, List.map_take]
theorem toks_take {f : List UInt8 → List Tok} (hf : Chosen f) (data : List UInt8) (j : Nat) : ((toksOf f data).take j).flatMap made = data.take (64 * j) := by
  have h1 : (toksOf f data).take j = (((List.range (cutN data)).take j).map (pieceAt data)).map f := by
    unfold toksOf cutP
    rw [List.map_take, List.map_take]
  rw [h1, List.flatMap_map, List.flatMap_map]
  have h2 : ((List.range (cutN data)).take j).flatMap (fun i => made (f (pieceAt data i))) = (((List.range (cutN data)).take j).map (pieceAt data)).flatten := by
    rw [List.flatMap_def]
    congr 1
    apply List.map_congr_left
    intro i _
    exact (chosen_made hf _ (piece_le data i)).2.1
  rw [h2, List.take_range, cut_join]
  by_cases hj : j ≤ cutN data
  · rw [Nat.min_eq_left hj]
  · rw [Nat.min_eq_right (by omega), List.take_of_length_le (by unfold cutN; omega), List.take_of_length_le (by unfold cutN at hj; omega)]
theorem bitsIn_stream (f : List UInt8 → List Tok) (data : List UInt8) : bitsIn (streamOf f data) = magicBits ++ (framesOf (toksOf f data) ++ endBits) := by
  have h := streamBits_full (toksOf f data)
  unfold streamOf
  rw [bitsIn_toBytes ((streamBits (toksOf f data)).length / 8) _ (by omega)]
  unfold streamBits
  rw [frames_all, List.append_assoc]
theorem stream_small {f : List UInt8 → List Tok} (hf : Chosen f) (data : List UInt8) (hd : data.length ≤ 2048) : (streamOf f data).length ≤ 4000 ∧ 4 ≤ (streamOf f data).length := by
  have h2 := frames_chosen hf data _ (Nat.le_refl _)
  have h3 : (streamOf f data).length = (streamBits (toksOf f data)).length / 8 := toBytes_length _
  unfold streamBits at h3
  rw [toksOf_length] at h2 h3
  simp only [List.length_append, magic_length, endBits_length] at h3
  unfold cutN at h2 h3
  omega
theorem stream_runs {f : List UInt8 → List Tok} (hf : Chosen f) (data : List UInt8) : ∃ st, (st = 1 ∨ st = 2) ∧ ∀ X : List Bool, X.length % 8 = 0 → Runs 0 (magicBits ++ (framesOf (toksOf f data) ++ X)) (fsOf (toksOf f data)) st X := by
  obtain ⟨st, hst, hr⟩ := frames_runs (toksOf f data) (toksOf f data).length 0 (fun i hi => by rw [Nat.zero_add]; exact toks_ok hf data i hi) (by omega)
  refine ⟨st, hst, fun X hX => magic_runs ?_ (hr X hX)⟩
  have := framesOf_full (toksOf f data)
  rw [List.length_append]; omega
theorem stop_runs {st : Nat} (hst : st = 1 ∨ st = 2) (Z : List Bool) (hZ : Z.length % 8 = 0) : Runs st (endBits ++ Z) [] 3 Z :=
  Runs.none (by omega) (part_none (by omega) (rStep_stop _ Z hZ)) ⟨by rw [List.length_append]; omega, hZ⟩ (Runs.stay 3 Z)
theorem bin_full (c : Nat) : (bin c 8).length % 8 = 0 := by rw [bin_length]
theorem bitsIn_one (c : UInt8) : bitsIn [c] = bin c.toNat 8 := by simp [bitsIn]

/-- A stream that is cut short. -/
theorem cut_short {f : List UInt8 → List Tok} (hf : Chosen f) (data : List UInt8) (hd : data.length ≤ 2048) (n : Nat) (hn : n < (streamOf f data).length) : ∃ ps j ends, rRead ((streamOf f data).take n) = (4, ps, data.take (64 * j), ends) := by
  obtain ⟨st, hst, hr⟩ := stream_runs hf data
  have h1 := hr endBits (by rw [endBits_length])
  have h2 : Runs 0 (bitsIn (streamOf f data)) (fsOf (toksOf f data)) 3 [] := by
    rw [bitsIn_stream]
    have := h1.trans (by simpa using stop_runs hst [] rfl)
    simpa using this
  have hlen := bitsIn_length (streamOf f data)
  have hbt : bitsIn ((streamOf f data).take n) = (bitsIn (streamOf f data)).take (8 * n) := by
    have e : bitsIn (streamOf f data) = bitsIn ((streamOf f data).take n) ++ bitsIn ((streamOf f data).drop n) := by rw [← bitsIn_append, List.take_append_drop]
    rw [e, List.take_left' (by rw [bitsIn_length, List.length_take]; omega)]
  have hs := stream_small hf data hd
  rcases h2.cut (8 * n) (by omega) (by omega) (by omega) with ⟨k', e, _⟩ | ⟨fs1, st1, R1, hr1, hs1, j, hj⟩
  · simp at e; omega
  · rw [← hbt] at hr1
    obtain ⟨ends, hx⟩ := hr1.read hs1 (by rw [List.length_take]; omega)
    exact ⟨psOf fs1, j, ends, hx.trans (by rw [show dataOf fs1 = data.take (64 * j) by rw [hj, fsOf_take, fsOf_data, toks_take hf]])⟩
/-- A stream with a byte behind it. -/
theorem cut_more {f : List UInt8 → List Tok} (hf : Chosen f) (data : List UInt8) (hd : data.length ≤ 2048) (x : UInt8) : ∃ ps ends, rRead (streamOf f data ++ [x]) = (9, ps, data, ends) := by
  obtain ⟨st, hst, hr⟩ := stream_runs hf data
  have h1 := (hr (endBits ++ bin x.toNat 8) (by rw [List.length_append, endBits_length, bin_length])).trans (stop_runs hst (bin x.toNat 8) (bin_full _))
  have hs := stream_small hf data hd
  have h2 : Runs 0 (bitsIn (streamOf f data ++ [x])) (fsOf (toksOf f data) ++ []) 3 (bin x.toNat 8) := by
    rw [bitsIn_append, bitsIn_stream, bitsIn_one]
    simpa [List.append_assoc] using h1
  obtain ⟨ends, hx⟩ := h2.read (e := 9) (.inl ⟨rfl, .inr ⟨fun h => by have := congrArg List.length h; rw [bin_length] at this; simp at this, rfl⟩⟩) (by rw [List.length_append]; simp; omega)
  exact ⟨psOf (fsOf (toksOf f data) ++ []), ends, hx.trans (by rw [show dataOf (fsOf (toksOf f data) ++ []) = data by rw [List.append_nil, fsOf_data, toks_made hf]])⟩
theorem stream_last (f : List UInt8 → List Tok) (data : List UInt8) : streamOf f data = toBytes (magicBits ++ framesOf (toksOf f data)) ++ [128] := by
  unfold streamOf streamBits
  have h1 := framesOf_full (toksOf f data)
  rw [frames_all, toBytes_append _ _ (by rw [List.length_append, magic_length]; omega)]
  rfl
/-- A stream whose last byte is more than 128. -/
theorem cut_pad {f : List UInt8 → List Tok} (hf : Chosen f) (data : List UInt8) (hd : data.length ≤ 2048) (c : UInt8) (hc : 128 < c.toNat) : ∃ ps ends, rRead ((streamOf f data).set ((streamOf f data).length - 1) c) = (7, ps, data, ends) := by
  obtain ⟨st, hst, hr⟩ := stream_runs hf data
  have hs := stream_small hf data hd
  have h1 := framesOf_full (toksOf f data)
  have hA : (magicBits ++ framesOf (toksOf f data)).length % 8 = 0 := by rw [List.length_append, magic_length]; omega
  have e : (streamOf f data).set ((streamOf f data).length - 1) c = toBytes (magicBits ++ framesOf (toksOf f data)) ++ [c] := by
    rw [stream_last]
    rw [List.set_append_right _ _ (by rw [List.length_append]; simp)]
    simp
  have hl : ((streamOf f data).set ((streamOf f data).length - 1) c).length ≤ 4096 := by rw [List.length_set]; omega
  have h2 : Runs 0 (bitsIn ((streamOf f data).set ((streamOf f data).length - 1) c)) (fsOf (toksOf f data)) st (bin c.toNat 8) := by
    rw [e, bitsIn_append, bitsIn_one, bitsIn_toBytes ((magicBits ++ framesOf (toksOf f data)).length / 8) _ (by omega), List.append_assoc]
    exact hr _ (bin_full _)
  obtain ⟨ends, hx⟩ := h2.read (e := 7) (.inr ⟨by omega, part_err (by omega) (rStep_bad _ _ hc c.toNat_lt)⟩) hl
  exact ⟨psOf (fsOf (toksOf f data)), ends, hx.trans (by rw [show dataOf (fsOf (toksOf f data)) = data by rw [fsOf_data, toks_made hf]])⟩
/-- A stream that begins otherwise. -/
theorem cut_magic {f : List UInt8 → List Tok} (hf : Chosen f) (data : List UInt8) (hd : data.length ≤ 2048) (i : Nat) (hi : i < 3) (c : UInt8) (hc : c ≠ (streamOf f data).getD i 0) : rRead ((streamOf f data).set i c) = (3, [], [], []) := by
  have hs := stream_small hf data hd
  have h1 := framesOf_full (toksOf f data)
  obtain ⟨rest, e⟩ : ∃ rest, streamOf f data = 80 :: 90 :: 49 :: rest := by
    have h3 : streamOf f data = toBytes magicBits ++ toBytes (framesOf (toksOf f data) ++ endBits) := by
      unfold streamOf streamBits
      rw [frames_all, List.append_assoc, toBytes_append _ _ (by rw [magic_length])]
    have h4 : toBytes magicBits = [80, 90, 49] := by decide
    exact ⟨_, by rw [h3, h4]; rfl⟩
  have hl : ((streamOf f data).set i c).length ≤ 4096 := by rw [List.length_set]; omega
  have hm : ∀ (b : UInt8) (l : List UInt8) (x : Nat) (xs : List Nat), rMagic (x :: xs) (bitsIn (b :: l)) = if b.toNat = x then rMagic xs (bitsIn l) else .error 3 := fun b l x xs => by
    have eb : bitsIn (b :: l) = bin b.toNat 8 ++ bitsIn l := by simp [bitsIn]
    rw [eb]
    simp only [rMagic]
    rw [if_neg (by rw [List.length_append, bin_length]; omega), List.take_left' (bin_length _ 8), List.drop_left' (bin_length _ 8), bin_val]
    have := b.toNat_lt
    rw [Nat.mod_eq_of_lt (by omega)]
  have hne : ∀ (a : UInt8), c ≠ a → c.toNat ≠ a.toNat := fun a h h' => h (UInt8.toNat_inj.1 h')
  have hmag : rMagic [80, 90, 49] (bitsIn ((streamOf f data).set i c)) = .error 3 := by
    rw [e] at hc ⊢
    rcases (show i = 0 ∨ i = 1 ∨ i = 2 by omega) with rfl | rfl | rfl
    · rw [List.set_cons_zero, hm, if_neg (show ¬ c.toNat = 80 from hne 80 (by simpa using hc))]
    · rw [List.set_cons_succ, List.set_cons_zero, hm, if_pos (by decide), hm, if_neg (show ¬ c.toNat = 90 from hne 90 (by simpa using hc))]
    · rw [List.set_cons_succ, List.set_cons_succ, List.set_cons_zero, hm, if_pos (by decide), hm, if_pos (by decide), hm, if_neg (show ¬ c.toNat = 49 from hne 49 (by simpa using hc))]
  unfold rRead
  rw [if_neg (by omega), hmag]

/-- A frame with another sum. -/
theorem rStep_other (ts : List Tok) (out : List UInt8) (R : List Bool) (he : Tok.expand [] ts = some out) (h1 : 1 ≤ out.length) (h64 : out.length ≤ 64) (hR : R.length % 8 = 0) (lo hi : Nat) (hlo : lo < 256) (hhi : hi < 256) (hne : (lo : Int) + 256 * hi ≠ Plain.total out) :
    rStep false (fill (numBits (out.length + 1) ++ bitsOf ts) ++ (bin lo 8 ++ (bin hi 8 ++ R))) = .error 8 := by
  have hpn : padN (numBits (out.length + 1) ++ bitsOf ts).length < 8 := by unfold padN; omega
  have hfl := fill_length (numBits (out.length + 1) ++ bitsOf ts)
  unfold fill at hfl ⊢
  generalize padN (numBits (out.length + 1) ++ bitsOf ts).length = p at *
  have e : numBits (out.length + 1) ++ bitsOf ts ++ List.replicate p false ++ (bin lo 8 ++ (bin hi 8 ++ R)) = numBits (out.length + 1) ++ (bitsOf ts ++ (List.replicate p false ++ (bin lo 8 ++ (bin hi 8 ++ R)))) := by simp
  rw [e]
  have hn := rNum_bits 5 (out.length + 1) (by omega) (by omega) (bitsOf ts ++ (List.replicate p false ++ (bin lo 8 ++ (bin hi 8 ++ R))))
  have htk := rToks_bits out.length h64 (List.replicate p false ++ (bin lo 8 ++ (bin hi 8 ++ R))) ts out.length 0 [] out he rfl rfl (by have := Tok.expand_many ts [] out he; simpa using this)
  have hlen : (List.replicate p false ++ (bin lo 8 ++ (bin hi 8 ++ R))).length % 8 = p := by
    simp only [List.length_append, List.length_replicate, bin_length]; omega
  have hpad : padB (List.replicate p false ++ (bin lo 8 ++ (bin hi 8 ++ R))) = true := by
    unfold padB
    rw [hlen, List.take_left' (List.length_replicate ..)]
    simp
  refine rStep_err hn (by omega) (by simp; omega) ?_
  rw [Nat.add_sub_cancel]
  simp only [rFrame, htk, hpad]
  rw [if_neg (by simp), hlen, List.drop_left' (List.length_replicate ..), if_neg (by simp only [List.length_append, bin_length]; omega), if_pos]
  rw [List.take_left' (bin_length _ 8), List.drop_left' (bin_length _ 8), List.take_left' (bin_length _ 8), bin_val, bin_val, he, Nat.mod_eq_of_lt (by omega), Nat.mod_eq_of_lt (by omega)]
  exact hne
/-- A stream with another sum in its last frame. -/
theorem cut_total {f : List UInt8 → List Tok} (hf : Chosen f) (data : List UInt8) (hd : data.length ≤ 2048) (h0 : data ≠ []) (j : Nat) (hj : j < 2) (c : UInt8) (hc : c ≠ (streamOf f data).getD ((streamOf f data).length - 2 - j) 0) : ∃ ps ends, rRead ((streamOf f data).set ((streamOf f data).length - 2 - j) c) = (8, ps, data.take (64 * ((data.length - 1) / 64)), ends) := by
  have hs := stream_small hf data hd
  have hpos : 0 < data.length := List.length_pos_iff.2 h0
  obtain ⟨M, hM⟩ : ∃ M, cutN data = M + 1 := ⟨cutN data - 1, by unfold cutN; omega⟩
  have hM2 : M = (data.length - 1) / 64 := by unfold cutN at hM; omega
  have hpl := pieceAt_length data M
  have hpe := chosen_made hf (pieceAt data M) (piece_le data M)
  have hlen : (toksOf f data).length = M + 1 := by rw [toksOf_length, hM]
  have htoks : toksOf f data = (toksOf f data).take M ++ [f (pieceAt data M)] := by
    have h := List.take_succ_eq_append_getElem (l := toksOf f data) (i := M) (by omega)
    rw [List.take_of_length_le (by omega)] at h
    conv => lhs; rw [h]
    congr 1
    have := toksOf_getD f data M (by omega)
    simp [List.getD, hlen] at this
    rw [this]
  have hfull : ∀ ts ∈ (toksOf f data).take M, Tok.expand [] ts = some (made ts) ∧ (made ts).length = 64 := fun ts hts => by
    obtain ⟨i, hi, rfl⟩ := List.getElem_of_mem hts
    rw [List.length_take] at hi
    have hg : ((toksOf f data).take M)[i] = f (pieceAt data i) := by
      have := toksOf_getD f data i (by omega)
      simp [List.getD, hlen, show i < M + 1 by omega] at this
      rw [List.getElem_take, this]
    rw [hg]
    have h1 := chosen_made hf (pieceAt data i) (piece_le data i)
    have h2 := pieceAt_length data i
    refine ⟨by rw [h1.2.1]; exact h1.1, by rw [h1.2.1, h2]; unfold cutN at hM; omega⟩
  have htr := total_range (pieceAt data M)
  have hfb : framesOf (toksOf f data) = framesOf ((toksOf f data).take M) ++ frameBits (f (pieceAt data M)) (pieceAt data M) := by
    conv => lhs; rw [htoks]
    simp [framesOf, hpe.2.1]
  have hPf := fill_length (numBits ((pieceAt data M).length + 1) ++ bitsOf (f (pieceAt data M)))
  have hq8 := framesOf_full ((toksOf f data).take M)
  generalize hlo : (Plain.total (pieceAt data M) % 256).toNat = lo at *
  generalize hhi : (Plain.total (pieceAt data M) / 256).toNat = hi at *
  have hlob : lo < 256 := by omega
  have hhib : hi < 256 := by omega
  have hA8 : (magicBits ++ (framesOf ((toksOf f data).take M) ++ fill (numBits ((pieceAt data M).length + 1) ++ bitsOf (f (pieceAt data M))))).length % 8 = 0 := by
    rw [List.length_append, List.length_append, magic_length]; omega
  have hS : streamOf f data = toBytes (magicBits ++ (framesOf ((toksOf f data).take M) ++ fill (numBits ((pieceAt data M).length + 1) ++ bitsOf (f (pieceAt data M))))) ++ [UInt8.ofNat lo, UInt8.ofNat hi, 128] := by
    rw [stream_last, hfb]
    unfold frameBits
    rw [hlo, hhi]
    have e : magicBits ++ (framesOf ((toksOf f data).take M) ++ (fill (numBits ((pieceAt data M).length + 1) ++ bitsOf (f (pieceAt data M))) ++ (bin lo 8 ++ bin hi 8))) = (magicBits ++ (framesOf ((toksOf f data).take M) ++ fill (numBits ((pieceAt data M).length + 1) ++ bitsOf (f (pieceAt data M))))) ++ (bin lo 8 ++ bin hi 8) := by simp
    rw [e, toBytes_append _ _ hA8, toBytes_append _ _ (bin_full lo), bin_eight_value lo hlob, bin_eight_value hi hhib]
    simp
  generalize hA : magicBits ++ (framesOf ((toksOf f data).take M) ++ fill (numBits ((pieceAt data M).length + 1) ++ bitsOf (f (pieceAt data M)))) = A at *
  obtain ⟨lo', hi', hS', hne⟩ : ∃ lo' hi' : UInt8, (streamOf f data).set ((streamOf f data).length - 2 - j) c = toBytes A ++ [lo', hi', 128] ∧ (lo'.toNat : Int) + 256 * hi'.toNat ≠ Plain.total (pieceAt data M) := by
    have hll : (streamOf f data).length = (toBytes A).length + 3 := by rw [hS, List.length_append]; rfl
    have hlot : (UInt8.ofNat lo).toNat = lo := by simp; omega
    have hhit : (UInt8.ofNat hi).toNat = hi := by simp; omega
    rw [hll] at hc ⊢
    rcases (show j = 0 ∨ j = 1 by omega) with rfl | rfl
    · refine ⟨UInt8.ofNat lo, c, ?_, ?_⟩
      · rw [hS, List.set_append_right _ _ (by omega), show (toBytes A).length + 3 - 2 - 0 - (toBytes A).length = 1 by omega]
        rfl
      · rw [hS] at hc
        have hcv : c ≠ UInt8.ofNat hi := by
          intro h
          apply hc
          rw [List.getD, List.getElem?_append_right (by omega), show (toBytes A).length + 3 - 2 - 0 - (toBytes A).length = 1 by omega]
          simp [h]
        have : c.toNat ≠ hi := fun h => hcv (by rw [← h]; simp)
        have hct := c.toNat_lt
        rw [hlot]
        omega
    · refine ⟨c, UInt8.ofNat hi, ?_, ?_⟩
      · rw [hS, List.set_append_right _ _ (by omega), show (toBytes A).length + 3 - 2 - 1 - (toBytes A).length = 0 by omega]
        rfl
      · rw [hS] at hc
        have hcv : c ≠ UInt8.ofNat lo := by
          intro h
          apply hc
          rw [List.getD, List.getElem?_append_right (by omega), show (toBytes A).length + 3 - 2 - 1 - (toBytes A).length = 0 by omega]
          simp [h]
        have : c.toNat ≠ lo := fun h => hcv (by rw [← h]; simp)
        have hct := c.toNat_lt
        rw [hhit]
        omega
  have hl : ((streamOf f data).set ((streamOf f data).length - 2 - j) c).length ≤ 4096 := by rw [List.length_set]; omega
  have hX8 : (fill (numBits ((pieceAt data M).length + 1) ++ bitsOf (f (pieceAt data M))) ++ (bin lo'.toNat 8 ++ (bin hi'.toNat 8 ++ endBits))).length % 8 = 0 := by
    rw [List.length_append, List.length_append, List.length_append, bin_length, bin_length, endBits_length]; omega
  have hr := magic_runs (by rw [List.length_append]; omega) (full_runs ((toksOf f data).take M) hfull (fill (numBits ((pieceAt data M).length + 1) ++ bitsOf (f (pieceAt data M))) ++ (bin lo'.toNat 8 ++ (bin hi'.toNat 8 ++ endBits))) hX8)
  have hbits : bitsIn ((streamOf f data).set ((streamOf f data).length - 2 - j) c) = magicBits ++ (framesOf ((toksOf f data).take M) ++ (fill (numBits ((pieceAt data M).length + 1) ++ bitsOf (f (pieceAt data M))) ++ (bin lo'.toNat 8 ++ (bin hi'.toNat 8 ++ endBits)))) := by
    rw [hS', bitsIn_append, bitsIn_toBytes (A.length / 8) _ (by omega), ← hA]
    have : bitsIn [lo', hi', 128] = bin lo'.toNat 8 ++ (bin hi'.toNat 8 ++ endBits) := by
      simp [bitsIn]
      rfl
    rw [this]
    simp
  rw [← hbits] at hr
  have hstop : Stops 1 (fill (numBits ((pieceAt data M).length + 1) ++ bitsOf (f (pieceAt data M))) ++ (bin lo'.toNat 8 ++ (bin hi'.toNat 8 ++ endBits))) 8 :=
    .inr ⟨by decide, part_err (by decide) (rStep_other (f (pieceAt data M)) (pieceAt data M) endBits hpe.1 (by rw [hpl]; unfold cutN at hM; omega) (piece_le data M) (by rw [endBits_length]) lo'.toNat hi'.toNat lo'.toNat_lt hi'.toNat_lt hne)⟩
  obtain ⟨ends, hx⟩ := hr.read hstop hl
  exact ⟨_, ends, hx.trans (by rw [← hM2, ← toks_take hf, ← fsOf_data]; rfl)⟩
end Go.Proofs.Ytnpnaglgllcpfab
