/-
  What is read of a stream, part by part, and what does not change when more comes: plain facts, of no program.
-/
import Derived.Test.YtnpnaglgllcpfabSb6
namespace Go.Proofs.Ytnpnaglgllcpfab
set_option maxRecDepth 100000

abbrev psOf (fs : List (List Tok × List UInt8)) : List (List Tok) := fs.map Prod.fst
abbrev dataOf (fs : List (List Tok × List UInt8)) : List UInt8 := (fs.map Prod.snd).flatten

theorem rStep_short (R R2 : List Bool) (ts : List Tok) : rStep true R ≠ .ok (some ts, R2) := by
  unfold rStep
  rcases rNum 5 0 R with c | ⟨v, R1⟩
  · simp
  · simp only
    by_cases hv : v = 1
    · simp only [if_pos hv]
      cases padB R1 <;> simp
    · simp [if_neg hv]

theorem rNum_more (e : Int) (X : List Bool) : ∀ (R : List Bool) (z v : Nat) (R' : List Bool), rNum e z R = .ok (v, R') → rNum e z (R ++ X) = .ok (v, R' ++ X)
  | [], _, _, _, h => by simp [rNum] at h
  | true :: R, z, v, R', h => by
    simp only [rNum, List.cons_append] at h ⊢
    split at h
    · cases h
    · rename_i hz
      simp at h
      obtain ⟨rfl, rfl⟩ := h
      rw [if_neg (by rw [List.length_append]; omega), List.take_append_of_le_length (by omega), List.drop_append_of_le_length (by omega)]
  | false :: R, z, v, R', h => by
    simp only [rNum, List.cons_append] at h ⊢
    split at h
    · cases h
    · rename_i hz
      rw [if_neg hz]; exact rNum_more e X R _ v R' h
theorem rNum_err (e : Int) (X : List Bool) : ∀ (R : List Bool) (z : Nat) (c : Int), rNum e z R = .error c → c ≠ 4 → rNum e z (R ++ X) = .error c
  | [], _, _, h, hc => by simp [rNum] at h; omega
  | true :: R, z, c, h, hc => by
    simp only [rNum] at h
    split at h
    · simp at h; omega
    · cases h
  | false :: R, z, c, h, hc => by
    simp only [rNum, List.cons_append] at h ⊢
    split at h
    · rename_i hz
      rw [if_pos hz]; exact h
    · rename_i hz
      rw [if_neg hz]; exact rNum_err e X R _ c h hc

theorem rTok_more (X : List Bool) {made left : Nat} {R R' : List Bool} {t : Tok} (h : rTok made left R = .ok (t, R')) : rTok made left (R ++ X) = .ok (t, R' ++ X) := by
  match R, h with
  | false :: R, h =>
    simp only [rTok, List.cons_append] at h ⊢
    split at h
    · cases h
    · rename_i hz
      simp at h
      obtain ⟨rfl, rfl⟩ := h
      rw [if_neg (by rw [List.length_append]; omega), List.take_append_of_le_length (by omega), List.drop_append_of_le_length (by omega)]
  | true :: R, h =>
    simp only [rTok, List.cons_append] at h ⊢
    split at h
    · cases h
    · rename_i n R1 hn
      rw [rNum_more 6 X R 0 n R1 hn]
      simp only
      split at h
      · cases h
      · rename_i hl
        rw [if_neg hl]
        split at h
        · cases h
        · rename_i d R2 hd
          rw [rNum_more 6 X R1 0 d R2 hd]
          simp only
          split at h
          · cases h
          · rename_i hb
            rw [if_neg hb]
            simp at h
            obtain ⟨rfl, rfl⟩ := h
            rfl
theorem rTok_err (X : List Bool) {made left : Nat} {R : List Bool} {c : Int} (h : rTok made left R = .error c) (hc : c ≠ 4) : rTok made left (R ++ X) = .error c := by
  match R, h with
  | [], h => simp [rTok] at h; omega
  | false :: R, h =>
    simp only [rTok] at h
    split at h
    · simp at h; omega
    · cases h
  | true :: R, h =>
    simp only [rTok, List.cons_append] at h ⊢
    split at h
    · rename_i c' hn
      simp at h
      subst h
      rw [rNum_err 6 X R 0 c' hn hc]
    · rename_i n R1 hn
      rw [rNum_more 6 X R 0 n R1 hn]
      simp only
      split at h
      · rename_i hl
        rw [if_pos hl]; exact h
      · rename_i hl
        rw [if_neg hl]
        split at h
        · rename_i c' hd
          simp at h
          subst h
          rw [rNum_err 6 X R1 0 c' hd hc]
        · rename_i d R2 hd
          rw [rNum_more 6 X R1 0 d R2 hd]
          simp only
          split at h
          · rename_i hb
            rw [if_pos hb]; exact h
          · cases h

theorem rToks_more (X : List Bool) (n : Nat) : ∀ (f made : Nat) (R : List Bool) (ts : List Tok) (R' : List Bool), rToks n f made R = .ok (ts, R') → rToks n f made (R ++ X) = .ok (ts, R' ++ X)
  | 0, made, R, ts, R', h => by
    simp [rToks] at h ⊢
    obtain ⟨rfl, rfl⟩ := h
    simp
  | f + 1, made, R, ts, R', h => by
    simp only [rToks] at h ⊢
    split at h
    · rename_i hm
      rw [if_pos hm]
      simp at h
      obtain ⟨rfl, rfl⟩ := h
      rfl
    · rename_i hm
      rw [if_neg hm]
      split at h
      · cases h
      · rename_i t R1 ht
        rw [rTok_more X ht]
        simp only
        split at h
        · cases h
        · rename_i us R2 hu
          rw [rToks_more X n f _ R1 us R2 hu]
          simp at h
          obtain ⟨rfl, rfl⟩ := h
          rfl
theorem rToks_err (X : List Bool) (n : Nat) : ∀ (f made : Nat) (R : List Bool) (c : Int), rToks n f made R = .error c → c ≠ 4 → rToks n f made (R ++ X) = .error c
  | 0, made, R, c, h, _ => by simp [rToks] at h
  | f + 1, made, R, c, h, hc => by
    simp only [rToks] at h ⊢
    split at h
    · cases h
    · rename_i hm
      rw [if_neg hm]
      split at h
      · rename_i c' ht
        simp at h
        subst h
        rw [rTok_err X ht hc]
      · rename_i t R1 ht
        rw [rTok_more X ht]
        simp only
        split at h
        · rename_i c' hu
          simp at h
          subst h
          rw [rToks_err X n f _ R1 c' hu hc]
        · cases h

theorem padB_more (R X : List Bool) (h : X.length % 8 = 0) : padB (R ++ X) = padB R := by
  unfold padB
  rw [show (R ++ X).length % 8 = R.length % 8 by rw [List.length_append]; omega, List.take_append_of_le_length (by omega)]
theorem pad_drop (R X : List Bool) (h : X.length % 8 = 0) : (R ++ X).drop ((R ++ X).length % 8) = R.drop (R.length % 8) ++ X := by
  rw [show (R ++ X).length % 8 = R.length % 8 by rw [List.length_append]; omega, List.drop_append_of_le_length (by omega)]

theorem rFrame_more (X : List Bool) (hX : X.length % 8 = 0) {n : Nat} {R R' : List Bool} {ts : List Tok} (h : rFrame n R = .ok (ts, R')) : rFrame n (R ++ X) = .ok (ts, R' ++ X) := by
  simp only [rFrame] at h ⊢
  split at h
  · cases h
  · rename_i us R1 hu
    rw [rToks_more X n n 0 R us R1 hu]
    simp only
    rw [padB_more R1 X hX, pad_drop R1 X hX]
    split at h
    · cases h
    · rename_i hp
      rw [if_neg hp]
      split at h
      · cases h
      · rename_i hl
        rw [if_neg (by rw [List.length_append]; omega)]
        generalize R1.drop (R1.length % 8) = Q at *
        rw [List.take_append_of_le_length (by omega), List.drop_append_of_le_length (l₁ := Q) (i := 8) (by omega), List.take_append_of_le_length (by rw [List.length_drop]; omega), List.drop_append_of_le_length (by omega)]
        split at h
        · cases h
        · rename_i hs
          rw [if_neg hs]
          simp at h
          obtain ⟨rfl, rfl⟩ := h
          rfl
theorem rFrame_err (X : List Bool) (hX : X.length % 8 = 0) {n : Nat} {R : List Bool} {c : Int} (h : rFrame n R = .error c) (hc : c ≠ 4) : rFrame n (R ++ X) = .error c := by
  simp only [rFrame] at h ⊢
  split at h
  · rename_i c' hu
    simp at h
    subst h
    rw [rToks_err X n n 0 R c' hu hc]
  · rename_i us R1 hu
    rw [rToks_more X n n 0 R us R1 hu]
    simp only
    rw [padB_more R1 X hX, pad_drop R1 X hX]
    split at h
    · rename_i hp
      rw [if_pos hp]; exact h
    · rename_i hp
      rw [if_neg hp]
      split at h
      · simp at h; omega
      · rename_i hl
        rw [if_neg (by rw [List.length_append]; omega)]
        generalize R1.drop (R1.length % 8) = Q at *
        rw [List.take_append_of_le_length (by omega), List.drop_append_of_le_length (l₁ := Q) (i := 8) (by omega), List.take_append_of_le_length (by rw [List.length_drop]; omega)]
        split at h
        · rename_i hs
          rw [if_pos hs]; exact h
        · cases h

theorem rStep_more (X : List Bool) (hX : X.length % 8 = 0) {short : Bool} {R R' : List Bool} {o : Option (List Tok)} (h : rStep short R = .ok (o, R')) : rStep short (R ++ X) = .ok (o, R' ++ X) := by
  simp only [rStep] at h ⊢
  split at h
  · cases h
  · rename_i v R1 hn
    rw [rNum_more 5 X R 0 v R1 hn]
    simp only
    rw [padB_more R1 X hX, pad_drop R1 X hX]
    split at h
    · rename_i hv
      rw [if_pos hv]
      split at h
      · cases h
      · rename_i hp
        rw [if_neg hp]
        simp at h
        obtain ⟨rfl, rfl⟩ := h
        rfl
    · rename_i hv
      rw [if_neg hv]
      split at h
      · cases h
      · rename_i hb
        rw [if_neg hb]
        split at h
        · cases h
        · rename_i ts R2 hf
          rw [rFrame_more X hX hf]
          simp at h
          obtain ⟨rfl, rfl⟩ := h
          rfl
theorem rStep_more_err (X : List Bool) (hX : X.length % 8 = 0) {short : Bool} {R : List Bool} {c : Int} (h : rStep short R = .error c) (hc : c ≠ 4) : rStep short (R ++ X) = .error c := by
  simp only [rStep] at h ⊢
  split at h
  · rename_i c' hn
    simp at h
    subst h
    rw [rNum_err 5 X R 0 c' hn hc]
  · rename_i v R1 hn
    rw [rNum_more 5 X R 0 v R1 hn]
    simp only
    rw [padB_more R1 X hX, pad_drop R1 X hX]
    split at h
    · rename_i hv
      rw [if_pos hv]
      split at h
      · rename_i hp
        rw [if_pos hp]; exact h
      · cases h
    · rename_i hv
      rw [if_neg hv]
      split at h
      · rename_i hb
        rw [if_pos hb]; exact h
      · rename_i hb
        rw [if_neg hb]
        split at h
        · rename_i c' hf
          simp at h
          subst h
          rw [rFrame_err X hX hf hc]
        · cases h
theorem rMagic_more (X : List Bool) : ∀ (bs : List Nat) (R R' : List Bool), rMagic bs R = .ok R' → rMagic bs (R ++ X) = .ok (R' ++ X)
  | [], R, R', h => by simp [rMagic] at h ⊢; rw [h]
  | b :: bs, R, R', h => by
    simp only [rMagic] at h ⊢
    split at h
    · cases h
    · rename_i hl
      rw [if_neg (by rw [List.length_append]; omega), List.take_append_of_le_length (by omega), List.drop_append_of_le_length (by omega)]
      split at h
      · rename_i hb
        rw [if_pos hb]; exact rMagic_more X bs _ R' h
      · cases h
theorem rMagic_err (X : List Bool) : ∀ (bs : List Nat) (R : List Bool) (c : Int), rMagic bs R = .error c → c ≠ 4 → rMagic bs (R ++ X) = .error c
  | [], R, c, h, _ => by simp [rMagic] at h
  | b :: bs, R, c, h, hc => by
    simp only [rMagic] at h ⊢
    split at h
    · simp at h; omega
    · rename_i hl
      rw [if_neg (by rw [List.length_append]; omega), List.take_append_of_le_length (by omega), List.drop_append_of_le_length (by omega)]
      split at h
      · rename_i hb
        rw [if_pos hb]; exact rMagic_err X bs _ c h hc
      · rename_i hb
        rw [if_neg hb]; exact h

/-- The stage behind a frame that makes these bytes. -/
def stageOf (out : List UInt8) : Nat := if out.length < 64 then 2 else 1
/-- What comes at a stage off some bits: a frame's tokens or none, what is left, the stage behind. -/
def part (st : Nat) (R : List Bool) : Except Int (Option (List Tok) × List Bool × Nat) :=
  if st = 0 then
    match rMagic [80, 90, 49] R with
    | .error c => .error c
    | .ok R' => .ok (none, R', 1)
  else match rStep (decide (st = 2)) R with
    | .error c => .error c
    | .ok (none, R') => .ok (none, R', 3)
    | .ok (some ts, R') => .ok (some ts, R', stageOf (made ts))
theorem part_begin_err {R : List Bool} {c : Int} (h : rMagic [80, 90, 49] R = .error c) : part 0 R = .error c := by simp [part, h]
theorem part_begin {R R' : List Bool} (h : rMagic [80, 90, 49] R = .ok R') : part 0 R = .ok (none, R', 1) := by simp [part, h]
theorem part_err {st : Nat} (h0 : st ≠ 0) {R : List Bool} {c : Int} (h : rStep (decide (st = 2)) R = .error c) : part st R = .error c := by unfold part; rw [if_neg h0, h]
theorem part_none {st : Nat} (h0 : st ≠ 0) {R R' : List Bool} (h : rStep (decide (st = 2)) R = .ok (none, R')) : part st R = .ok (none, R', 3) := by unfold part; rw [if_neg h0, h]
theorem part_some {st : Nat} (h0 : st ≠ 0) {R R' : List Bool} {ts : List Tok} (h : rStep (decide (st = 2)) R = .ok (some ts, R')) : part st R = .ok (some ts, R', stageOf (made ts)) := by unfold part; rw [if_neg h0, h]
theorem part_more (X : List Bool) (hX : X.length % 8 = 0) {st st' : Nat} {R R' : List Bool} {o : Option (List Tok)} (h : part st R = .ok (o, R', st')) : part st (R ++ X) = .ok (o, R' ++ X, st') := by
  by_cases h0 : st = 0
  · subst h0
    rcases hm : rMagic [80, 90, 49] R with c | R1
    · rw [part_begin_err hm] at h; cases h
    · rw [part_begin hm] at h
      simp at h
      obtain ⟨rfl, rfl, rfl⟩ := h
      exact part_begin (rMagic_more X _ R R1 hm)
  · rcases hs : rStep (decide (st = 2)) R with c | ⟨_ | ts, R1⟩
    · rw [part_err h0 hs] at h; cases h
    · rw [part_none h0 hs] at h
      simp at h
      obtain ⟨rfl, rfl, rfl⟩ := h
      exact part_none h0 (rStep_more X hX hs)
    · rw [part_some h0 hs] at h
      simp at h
      obtain ⟨rfl, rfl, rfl⟩ := h
      exact part_some h0 (rStep_more X hX hs)
theorem part_more_err (X : List Bool) (hX : X.length % 8 = 0) {st : Nat} {R : List Bool} {c : Int} (h : part st R = .error c) (hc : c ≠ 4) : part st (R ++ X) = .error c := by
  by_cases h0 : st = 0
  · subst h0
    rcases hm : rMagic [80, 90, 49] R with c' | R1
    · rw [part_begin_err hm] at h
      simp at h
      subst h
      exact part_begin_err (rMagic_err X _ R c' hm hc)
    · rw [part_begin hm] at h; cases h
  · rcases hs : rStep (decide (st = 2)) R with c' | ⟨_ | ts, R1⟩
    · rw [part_err h0 hs] at h
      simp at h
      subst h
      exact part_err h0 (rStep_more_err X hX hs hc)
    · rw [part_none h0 hs] at h; cases h
    · rw [part_some h0 hs] at h; cases h

/-- Part by part, from a stage on: the frames that were read, the stage behind them, what is left. -/
inductive Runs : Nat → List Bool → List (List Tok × List UInt8) → Nat → List Bool → Prop
  | stay (st : Nat) (R : List Bool) : Runs st R [] st R
  | none {st st1 st2 : Nat} {R R1 R2 : List Bool} {fs : List (List Tok × List UInt8)} (h3 : st ≠ 3) (hp : part st R = .ok (none, R1, st1)) (hl : R1.length ≤ R.length ∧ R1.length % 8 = 0) (hr : Runs st1 R1 fs st2 R2) : Runs st R fs st2 R2
  | some {st st1 st2 : Nat} {R R1 R2 : List Bool} {ts : List Tok} {fs : List (List Tok × List UInt8)} (h3 : st ≠ 3) (hp : part st R = .ok (some ts, R1, st1)) (hl : R1.length < R.length ∧ R1.length % 8 = 0) (h1 : 1 ≤ (made ts).length) (h64 : (made ts).length ≤ 64) (hr : Runs st1 R1 fs st2 R2) : Runs st R ((ts, made ts) :: fs) st2 R2
/-- Here it stops, with this error, or none. -/
def Stops (st : Nat) (R : List Bool) (e : Int) : Prop := (st = 3 ∧ ((R = [] ∧ e = 0) ∨ (R ≠ [] ∧ e = 9))) ∨ (st ≠ 3 ∧ part st R = .error e)
theorem Runs.trans {st st1 st2 : Nat} {R R1 R2 : List Bool} {fs gs : List (List Tok × List UInt8)} (h : Runs st R fs st1 R1) (k : Runs st1 R1 gs st2 R2) : Runs st R (fs ++ gs) st2 R2 := by
  induction h with
  | stay => exact k
  | none h3 hp hl _ ih => exact .none h3 hp hl (ih k)
  | some h3 hp hl h1 h64 _ ih => exact .some h3 hp hl h1 h64 (ih k)
theorem Runs.more (X : List Bool) (hX : X.length % 8 = 0) {st st1 : Nat} {R R1 : List Bool} {fs : List (List Tok × List UInt8)} (h : Runs st R fs st1 R1) : Runs st (R ++ X) fs st1 (R1 ++ X) := by
  induction h with
  | stay => exact .stay _ _
  | none h3 hp hl _ ih => exact .none h3 (part_more X hX hp) (by simp only [List.length_append]; omega) ih
  | some h3 hp hl h1 h64 _ ih => exact .some h3 (part_more X hX hp) (by simp only [List.length_append]; omega) h1 h64 ih
theorem Runs.ended {R R1 : List Bool} {st : Nat} {fs : List (List Tok × List UInt8)} (h : Runs 3 R fs st R1) : st = 3 ∧ fs = [] ∧ R1 = R := by
  cases h with
  | stay => exact ⟨rfl, rfl, rfl⟩
  | none h3 => exact absurd rfl h3
  | some h3 => exact absurd rfl h3
theorem Stops.more (X : List Bool) (hX : X.length % 8 = 0) {st : Nat} {R : List Bool} {e : Int} (h : Stops st R e) (h0 : e ≠ 0) (h4 : e ≠ 4) : Stops st (R ++ X) e := by
  rcases h with ⟨rfl, ⟨_, h⟩ | ⟨h1, h⟩⟩ | ⟨h3, h⟩
  · exact absurd h h0
  · exact .inl ⟨rfl, .inr ⟨fun e => h1 (by simp at e; exact e.1), h⟩⟩
  · exact .inr ⟨h3, part_more_err X hX h h4⟩
/-- From a frame on it is what the reader of frames tells. -/
theorem Runs.main {L : List Bool} {e : Int} {st st' : Nat} {R R' : List Bool} {fs : List (List Tok × List UInt8)} (h : Runs st R fs st' R') : ∀ (f : Nat) (ps : List (List Tok)) (data : List UInt8) (ends : List Nat), Stops st' R' e → st = 1 ∨ st = 2 → decide (data.length ≠ 64 * ps.length) = decide (st = 2) → R.length + 1 ≤ f →
    ∃ ends', rMain L f ps data ends R = (e, ps ++ psOf fs, data ++ dataOf fs, ends') := by
  induction h with
  | stay st R =>
    intro f ps data ends hs hst hd hf
    obtain ⟨f, rfl⟩ : ∃ f', f = f' + 1 := ⟨f - 1, by omega⟩
    rcases hs with ⟨h3, _⟩ | ⟨_, hp⟩
    · omega
    · rw [rMain_step, hd]
      rcases hx : rStep (decide (st = 2)) R with c' | ⟨_ | ts, R1⟩
      · rw [part_err (by omega) hx] at hp
        simp at hp
        subst hp
        exact ⟨ends, by simp⟩
      · rw [part_none (by omega) hx] at hp; cases hp
      · rw [part_some (by omega) hx] at hp; cases hp
  | @none st st1 st2 R R1 R2 fs h3 hp hl hr ih =>
    intro f ps data ends hs hst hd hf
    obtain ⟨f, rfl⟩ : ∃ f', f = f' + 1 := ⟨f - 1, by omega⟩
    rcases hx : rStep (decide (st = 2)) R with c' | ⟨_ | ts, R1'⟩
    · rw [part_err (by omega) hx] at hp; cases hp
    · rw [part_none (by omega) hx] at hp
      simp at hp
      obtain ⟨rfl, rfl⟩ := hp
      obtain ⟨rfl, rfl, rfl⟩ := hr.ended
      rw [rMain_step, hd, hx]
      rcases hs with ⟨_, ⟨rfl, rfl⟩ | ⟨h1, rfl⟩⟩ | ⟨h, _⟩
      · exact ⟨ends, by simp⟩
      · exact ⟨ends, by simp [List.length_pos_iff.2 h1]⟩
      · exact absurd rfl h
    · rw [part_some (by omega) hx] at hp; cases hp
  | @some st st1 st2 R R1 R2 ts fs h3 hp hl h1 h64 hr ih =>
    intro f ps data ends hs hst hd hf
    obtain ⟨f, rfl⟩ : ∃ f', f = f' + 1 := ⟨f - 1, by omega⟩
    rcases hx : rStep (decide (st = 2)) R with c' | ⟨_ | ts', R1'⟩
    · rw [part_err (by omega) hx] at hp; cases hp
    · rw [part_none (by omega) hx] at hp; cases hp
    · have hst1 : st = 1 := by
        rcases hst with h | h
        · exact h
        · subst h
          exact absurd hx (rStep_short _ _ _)
      rw [part_some (by omega) hx] at hp
      simp at hp
      obtain ⟨rfl, rfl, rfl⟩ := hp
      subst hst1
      have hdl : data.length = 64 * ps.length := by simpa using hd
      obtain ⟨ends', hE⟩ := ih f (ps ++ [ts']) (data ++ made ts') (ends ++ [(L.length - R1'.length) / 8]) hs (by unfold stageOf; split <;> simp) (by
        unfold stageOf
        rw [List.length_append, List.length_append, hdl]
        simp only [List.length_cons, List.length_nil]
        split
        · rw [decide_eq_true (by omega)]; rfl
        · rw [decide_eq_false (by omega)]; rfl) (by omega)
      refine ⟨ends', ?_⟩
      rw [rMain_step, hd, hx]
      simp only
      rw [hE]
      simp [dataOf]
/-- From the beginning on it is what is read of the bytes. -/
theorem Runs.read {l : List UInt8} {e : Int} {st : Nat} {R : List Bool} {fs : List (List Tok × List UInt8)} (h : Runs 0 (bitsIn l) fs st R) (hs : Stops st R e) (hl : l.length ≤ 4096) : ∃ ends, rRead l = (e, psOf fs, dataOf fs, ends) := by
  have e0 : rRead l = (match rMagic [80, 90, 49] (bitsIn l) with
      | .error c => (c, [], [], [])
      | .ok R => rMain (bitsIn l) ((bitsIn l).length + 1) [] [] [] R) := if_neg (by omega)
  rw [e0]
  rcases hm : rMagic [80, 90, 49] (bitsIn l) with c' | R1'
  · cases h with
    | stay =>
      rcases hs with ⟨h3, _⟩ | ⟨_, hp⟩
      · omega
      · rw [part_begin_err hm] at hp
        simp at hp
        subst hp
        exact ⟨[], by simp⟩
    | none h3 hp => rw [part_begin_err hm] at hp; cases hp
    | some h3 hp => rw [part_begin_err hm] at hp; cases hp
  · cases h with
    | stay =>
      rcases hs with ⟨h3, _⟩ | ⟨_, hp⟩
      · omega
      · rw [part_begin hm] at hp; cases hp
    | none h3 hp hle hr =>
      rw [part_begin hm] at hp
      simp at hp
      obtain ⟨rfl, rfl⟩ := hp
      have := hr.main (L := bitsIn l) ((bitsIn l).length + 1) [] [] [] hs (.inl rfl) rfl (by omega)
      simpa using this
    | some h3 hp => rw [part_begin hm] at hp; cases hp
end Go.Proofs.Ytnpnaglgllcpfab
