/-
  Streams that were cut, or changed: what is read of them: plain facts, of no program.
-/
import Derived.Test.YtnpnaglgllcpfabDcr2
import Derived.Test.YtnpnaglgllcpfabStA
namespace Go.Proofs.Ytnpnaglgllcpfab
set_option maxRecDepth 100000

theorem rStep_frame (ts : List Tok) (out : List UInt8) (R : List Bool) (he : Tok.expand [] ts = some out) (h1 : 1 ≤ out.length) (h64 : out.length ≤ 64) (hR : R.length % 8 = 0) : rStep false (frameBits ts out ++ R) = .ok (some ts, R) := by
  rw [frame_split]
  simp only [List.append_assoc]
  have hn := rNum_bits 5 (out.length + 1) (by omega) (by omega) (bitsOf ts ++ (tailBits ts out ++ R))
  have hf := rFrame_bits ts (out, []) ([], R) he h64 hR
  exact rStep_ok hn (by omega) (by simp; omega) (by simpa using hf)
theorem rStep_stop (short : Bool) (X : List Bool) (hX : X.length % 8 = 0) : rStep short (endBits ++ X) = .ok (none, X) := by
  have e : endBits ++ X = true :: (List.replicate 7 false ++ X) := rfl
  have hn : rNum 5 0 (endBits ++ X) = .ok (1, List.replicate 7 false ++ X) := by
    rw [e]
    simp only [rNum]
    rw [if_neg (by omega)]
    rfl
  have hl : (List.replicate 7 false ++ X).length % 8 = 7 := by rw [List.length_append, List.length_replicate]; omega
  have hp : padB (List.replicate 7 false ++ X) = true := by
    unfold padB
    rw [hl, List.take_left' (by simp)]
    simp
  simp only [rStep, hn, if_true, hp]
  rw [if_neg (by simp), hl, List.drop_left' (by simp)]
theorem rStep_bad (short : Bool) (c : Nat) (hc : 128 < c) (hc2 : c < 256) : rStep short (bin c 8) = .error 7 := by
  have e : bin c 8 = true :: bin c 7 := by
    show (c / 2 ^ 7 % 2 == 1) :: bin c 7 = _
    have : c / 2 ^ 7 % 2 = 1 := by omega
    rw [this]
    rfl
  have hn : rNum 5 0 (bin c 8) = .ok (1, bin c 7) := by
    rw [e]
    simp only [rNum]
    rw [if_neg (by omega)]
    rfl
  have hp : padB (bin c 7) = false := by
    cases h : padB (bin c 7) with
    | false => rfl
    | true =>
      exfalso
      unfold padB at h
      rw [show (bin c 7).length % 8 = 7 by rw [bin_length], List.take_of_length_le (by rw [bin_length]; omega)] at h
      have hv : valB (bin c 7) = 0 := by
        have key : ∀ l : List Bool, (l.all fun b => !b) = true → valB l = 0 := by
          intro l
          induction l with
          | nil => intro _; rfl
          | cons b l ih =>
            intro hb
            simp at hb
            obtain ⟨h1, h2⟩ := hb
            subst h1
            rw [valB_cons, ih (by simpa using h2)]
            simp
        exact key _ h
      rw [bin_val] at hv
      omega
  exact rStep_pad hn hp

/-- Frames, one behind the other, are read. -/
theorem frames_runs : ∀ (qs : List (List Tok)) (n k : Nat), (∀ i, i < qs.length → okAt n (k + i) (qs.getD i []) = true) → k + qs.length = n → ∃ st, (st = 1 ∨ st = 2) ∧ ∀ X : List Bool, X.length % 8 = 0 → Runs 1 (framesOf qs ++ X) (qs.map fun ts => (ts, made ts)) st X
  | [], n, k, _, _ => ⟨1, .inl rfl, fun X _ => by simpa [framesOf] using Runs.stay 1 X⟩
  | ts :: qs, n, k, hok, hn => by
    have h0 := okAt_facts (hok 0 (by simp))
    simp only [List.getD_cons_zero] at h0
    obtain ⟨h1, h2, h3, h4⟩ := h0
    have hstep : ∀ X : List Bool, X.length % 8 = 0 → part 1 (framesOf (ts :: qs) ++ X) = .ok (some ts, framesOf qs ++ X, stageOf (made ts)) ∧ (framesOf qs ++ X).length < (framesOf (ts :: qs) ++ X).length ∧ (framesOf qs ++ X).length % 8 = 0 := fun X hX => by
      have e : framesOf (ts :: qs) ++ X = frameBits ts (made ts) ++ (framesOf qs ++ X) := by simp [framesOf]
      have hR : (framesOf qs ++ X).length % 8 = 0 := by
        have := framesOf_full qs
        rw [List.length_append]; omega
      have hfl : 1 ≤ (frameBits ts (made ts)).length := by
        rw [frame_split]
        unfold tailBits
        simp only [List.length_append, bin_length]
        omega
      refine ⟨?_, ?_, hR⟩
      · rw [e]
        exact part_some (by decide) (rStep_frame ts (made ts) _ h1 h2 h3 hR)
      · rw [e]; simp only [List.length_append]; omega
    by_cases h64 : (made ts).length = 64
    · obtain ⟨st, hst, hr⟩ := frames_runs qs n (k + 1) (fun i hi => by
        have := hok (i + 1) (by simp; omega)
        rw [List.getD_cons_succ] at this
        rwa [show k + 1 + i = k + (i + 1) by omega]) (by simp at hn; omega)
      refine ⟨st, hst, fun X hX => ?_⟩
      obtain ⟨p1, p2, p3⟩ := hstep X hX
      have hs : stageOf (made ts) = 1 := by unfold stageOf; rw [if_neg (by omega)]
      rw [hs] at p1
      exact Runs.some (by decide) p1 ⟨p2, p3⟩ h2 h3 (hr X hX)
    · have hq : qs = [] := List.eq_nil_of_length_eq_zero (by simp only [List.length_cons] at hn; omega)
      subst hq
      refine ⟨2, .inr rfl, fun X hX => ?_⟩
      obtain ⟨p1, p2, p3⟩ := hstep X hX
      have hs : stageOf (made ts) = 2 := by unfold stageOf; rw [if_pos (by omega)]
      rw [hs] at p1
      have e : framesOf ([] : List (List Tok)) ++ X = X := by simp [framesOf]
      rw [e] at p1 p2 p3
      exact Runs.some (by decide) p1 ⟨p2, p3⟩ h2 h3 (Runs.stay 2 X)
/-- Full frames, one behind the other, are read, and a frame may follow. -/
theorem full_runs : ∀ (qs : List (List Tok)), (∀ ts ∈ qs, Tok.expand [] ts = some (made ts) ∧ (made ts).length = 64) → ∀ X : List Bool, X.length % 8 = 0 → Runs 1 (framesOf qs ++ X) (qs.map fun ts => (ts, made ts)) 1 X
  | [], _, X, _ => by simpa [framesOf] using Runs.stay 1 X
  | ts :: qs, hq, X, hX => by
    obtain ⟨h1, h2⟩ := hq ts (by simp)
    have e : framesOf (ts :: qs) ++ X = frameBits ts (made ts) ++ (framesOf qs ++ X) := by simp [framesOf]
    have hR : (framesOf qs ++ X).length % 8 = 0 := by
      have := framesOf_full qs
      rw [List.length_append]; omega
    have hfl : 1 ≤ (frameBits ts (made ts)).length := by
      rw [frame_split]
      unfold tailBits
      simp only [List.length_append, bin_length]
      omega
    have p1 : part 1 (framesOf (ts :: qs) ++ X) = .ok (some ts, framesOf qs ++ X, 1) := by
      rw [e]
      have := part_some (st := 1) (by decide) (rStep_frame ts (made ts) (framesOf qs ++ X) h1 (by omega) (by omega) hR)
      have hs : stageOf (made ts) = 1 := by unfold stageOf; rw [if_neg (by omega)]
      rwa [hs] at this
    exact Runs.some (by decide) p1 ⟨by rw [e]; simp only [List.length_append]; omega, hR⟩ (by omega) (by omega) (full_runs qs (fun t ht => hq t (by simp [ht])) X hX)
theorem magic_runs {R : List Bool} {fs : List (List Tok × List UInt8)} {st : Nat} {X : List Bool} (hR : R.length % 8 = 0) (h : Runs 1 R fs st X) : Runs 0 (magicBits ++ R) fs st X :=
  Runs.none (by decide) (part_begin (rMagic_bits R)) ⟨by rw [List.length_append]; omega, hR⟩ h
/-- What is cut off: the part that is begun is too short. -/
theorem Runs.cut {st st' : Nat} {R R' : List Bool} {fs : List (List Tok × List UInt8)} (h : Runs st R fs st' R') : ∀ k, k ≤ R.length → R.length % 8 = 0 → k % 8 = 0 →
    (∃ k', k + R'.length = k' + R.length ∧ Runs st (R.take k) fs st' (R'.take k')) ∨ ∃ fs1 st1 R1, Runs st (R.take k) fs1 st1 R1 ∧ Stops st1 R1 4 ∧ ∃ j, fs1 = fs.take j := by
  have key : ∀ {st st1 : Nat} {R R1 : List Bool} {o : Option (List Tok)} (k : Nat), k ≤ R.length → R.length % 8 = 0 → k % 8 = 0 → part st R = .ok (o, R1, st1) → (∃ k1, k + R1.length = k1 + R.length ∧ part st (R.take k) = .ok (o, R1.take k1, st1)) ∨ part st (R.take k) = .error 4 := by
    intro st st1 R R1 o k hk h8 hk8 hp
    have hZ : (R.drop k).length % 8 = 0 := by rw [List.length_drop]; omega
    have hR : R.take k ++ R.drop k = R := List.take_append_drop k R
    rcases hq : part st (R.take k) with c | ⟨o', Q, s'⟩
    · right
      by_cases h4 : c = 4
      · rw [h4]
      · have := part_more_err (R.drop k) hZ hq h4
        rw [hR, hp] at this
        cases this
    · left
      have := part_more (R.drop k) hZ hq
      rw [hR, hp] at this
      simp at this
      obtain ⟨rfl, rfl, rfl⟩ := this
      refine ⟨Q.length, ?_, by rw [List.take_left]⟩
      rw [List.length_append, List.length_drop]; omega
  induction h with
  | stay st R => intro k hk h8 hk8; exact .inl ⟨k, rfl, Runs.stay _ _⟩
  | @none st st1 st2 R R1 R2 fs h3 hp hl hr ih =>
    intro k hk h8 hk8
    rcases key k hk h8 hk8 hp with ⟨k1, e1, hq⟩ | hq
    · have hln : ((R1.take k1).length ≤ (R.take k).length ∧ (R1.take k1).length % 8 = 0) := by
        rw [List.length_take, List.length_take]; omega
      rcases ih k1 (by omega) hl.2 (by omega) with ⟨k', e', hr'⟩ | ⟨fs1, st1', R1', hr', hs', hj⟩
      · exact .inl ⟨k', by omega, Runs.none h3 hq hln hr'⟩
      · exact .inr ⟨fs1, st1', R1', Runs.none h3 hq hln hr', hs', hj⟩
    · exact .inr ⟨[], st, _, Runs.stay _ _, .inr ⟨h3, hq⟩, 0, by simp⟩
  | @some st st1 st2 R R1 R2 ts fs h3 hp hl h1 h64 hr ih =>
    intro k hk h8 hk8
    rcases key k hk h8 hk8 hp with ⟨k1, e1, hq⟩ | hq
    · have hln : ((R1.take k1).length < (R.take k).length ∧ (R1.take k1).length % 8 = 0) := by
        rw [List.length_take, List.length_take]; omega
      rcases ih k1 (by omega) hl.2 (by omega) with ⟨k', e', hr'⟩ | ⟨fs1, st1', R1', hr', hs', j, hj⟩
      · exact .inl ⟨k', by omega, Runs.some h3 hq hln h1 h64 hr'⟩
      · exact .inr ⟨_, st1', R1', Runs.some h3 hq hln h1 h64 hr', hs', j + 1, by rw [hj]; rfl⟩
    · exact .inr ⟨[], st, _, Runs.stay _ _, .inr ⟨h3, hq⟩, 0, by simp⟩
end Go.Proofs.Ytnpnaglgllcpfab
