/-
  Plain facts on what is read of a stream, of no program.
-/
import Derived.Test.YtnncabpfalcaaaaRd3
import Derived.Test.YtnncabpfalcaaaaSum
namespace Go.Proofs.Ytnncabpfalcaaaa
set_option maxRecDepth 100000

theorem rNum_pos : ∀ (R : List Bool) (z : Nat) (e : Int) (v : Nat) (R' : List Bool), rNum e z R = .ok (v, R') → 1 ≤ v
  | [], _, _, _, _, h => by simp [rNum] at h
  | true :: R, z, e, v, R', h => by
    simp only [rNum] at h
    split at h
    · cases h
    · simp at h
      have := @Nat.one_le_two_pow z
      omega
  | false :: R, z, e, v, R', h => by
    simp only [rNum] at h
    split at h
    · cases h
    · exact rNum_pos R _ e v R' h

theorem valB_byte (l : List Bool) (h : l.length ≤ 8) : valB l < 256 :=
  Nat.lt_of_lt_of_le (valB_lt l) (Nat.pow_le_pow_right (n := 2) (by omega) h)

/-- A token that is read may stand there. -/
theorem rTok_fits {made left : Nat} {R R' : List Bool} {t : Tok} (h : rTok made left R = .ok (t, R')) (hml : made + left ≤ 64) (hl : 1 ≤ left) : Tok.fitsB t made = true ∧ 1 ≤ t.len ∧ t.len ≤ left := by
  match R, h with
  | false :: R, h =>
    simp only [rTok] at h
    split at h
    · cases h
    · simp at h
      obtain ⟨rfl, _⟩ := h
      refine ⟨?_, by simp, by simp; omega⟩
      rw [Tok.fits_iff]
      have := valB_byte (R.take 8) (by rw [List.length_take]; omega)
      simp
      omega
  | true :: R, h =>
    simp only [rTok] at h
    split at h
    · cases h
    · rename_i n R1 hn
      split at h
      · cases h
      · split at h
        · cases h
        · rename_i d R2 hd
          split at h
          · cases h
          · simp at h
            obtain ⟨rfl, _⟩ := h
            have h1 := rNum_pos _ _ _ _ _ hn
            have h2 := rNum_pos _ _ _ _ _ hd
            refine ⟨?_, by simp; omega, by simp; omega⟩
            rw [Tok.fits_iff]
            simp
            omega

/-- Tokens off some bits, till they have made n bytes. -/
def rToks (n : Nat) : Nat → Nat → List Bool → Except Int (List Tok × List Bool)
  | 0, _, R => .ok ([], R)
  | f + 1, made, R =>
    if n ≤ made then .ok ([], R)
    else match rTok made (n - made) R with
      | .error c => .error c
      | .ok (t, R1) =>
        match rToks n f (made + t.len.toNat) R1 with
        | .error c => .error c
        | .ok (ts, R2) => .ok (t :: ts, R2)

/-- Ahead of what comes. -/
def pre (acc : List Tok) : Except Int (List Tok × List Bool) → Except Int (List Tok × List Bool)
  | .error c => .error c
  | .ok (ts, R) => .ok (acc ++ ts, R)
theorem pre_nil (x : Except Int (List Tok × List Bool)) : pre [] x = x := by
  match x with
  | .error _ => rfl
  | .ok (_, _) => rfl
theorem rToks_error {n f made : Nat} {R : List Bool} {c : Int} (acc : List Tok) (hm : made < n) (h : rTok made (n - made) R = .error c) : pre acc (rToks n (f + 1) made R) = .error c := by
  have : ¬ n ≤ made := by omega
  simp only [rToks, if_neg this, h, pre]
theorem rToks_next {n f made : Nat} {R R1 : List Bool} {t : Tok} (acc : List Tok) (hm : made < n) (h : rTok made (n - made) R = .ok (t, R1)) : pre acc (rToks n (f + 1) made R) = pre (acc ++ [t]) (rToks n f (made + t.len.toNat) R1) := by
  have : ¬ n ≤ made := by omega
  simp only [rToks, if_neg this, h]
  match rToks n f (made + t.len.toNat) R1 with
  | .error _ => rfl
  | .ok (_, _) => simp [pre]
theorem rToks_done {n f made : Nat} {R : List Bool} (acc : List Tok) (hm : n ≤ made) : pre acc (rToks n f made R) = .ok (acc, R) := by
  match f with
  | 0 => simp [rToks, pre]
  | f + 1 => simp [rToks, hm, pre]

/-- A frame of n bytes off some bits: its tokens, and what is left. -/
def rFrame (n : Nat) (R : List Bool) : Except Int (List Tok × List Bool) :=
  match rToks n n 0 R with
  | .error c => .error c
  | .ok (ts, R1) =>
    if padB R1 = false then .error 7
    else if (R1.drop (R1.length % 8)).length < 16 then .error 4
    else if ((valB ((R1.drop (R1.length % 8)).take 8) : Int) + 256 * (valB (((R1.drop (R1.length % 8)).drop 8).take 8) : Int) ≠ Plain.total ((Tok.expand [] ts).getD [])) then .error 8
    else .ok (ts, (R1.drop (R1.length % 8)).drop 16)
end Go.Proofs.Ytnncabpfalcaaaa
