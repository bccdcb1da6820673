/-
  Plain facts on tokens, of no program: which tokens may stand where, what they make, how many bits they have.
-/
import Derived.Test.YtnpnaglgllcpfabRows
namespace Go.Proofs.Ytnpnaglgllcpfab

structure Tok where
  len : Int
  dist : Int
  byte : Int

namespace Tok
/-- A literal or a copy. -/
def formB (t : Tok) : Bool :=
  (decide (t.dist = 0) && decide (t.len = 1) && decide (0 ≤ t.byte) && decide (t.byte ≤ 255)) ||
  (decide (1 ≤ t.dist) && decide (t.dist ≤ 32) && decide (2 ≤ t.len) && decide (t.byte = 0))
/-- It may stand behind tokens that made m bytes. -/
def fitsB (t : Tok) (m : Int) : Bool := formB t && decide (t.dist ≤ m) && decide (t.len ≤ 64 - m)

theorem fits_iff (t : Tok) (m : Int) : fitsB t m = true ↔
    ((t.dist = 0 ∧ t.len = 1 ∧ 0 ≤ t.byte ∧ t.byte ≤ 255) ∨ (1 ≤ t.dist ∧ t.dist ≤ 32 ∧ 2 ≤ t.len ∧ t.byte = 0)) ∧ t.dist ≤ m ∧ t.len ≤ 64 - m := by
  simp only [fitsB, formB, Bool.and_eq_true, Bool.or_eq_true, decide_eq_true_eq, and_assoc]
theorem form_iff (t : Tok) : formB t = true ↔
    ((t.dist = 0 ∧ t.len = 1 ∧ 0 ≤ t.byte ∧ t.byte ≤ 255) ∨ (1 ≤ t.dist ∧ t.dist ≤ 32 ∧ 2 ≤ t.len ∧ t.byte = 0)) := by
  simp only [formB, Bool.and_eq_true, Bool.or_eq_true, decide_eq_true_eq, and_assoc]

/-- n times the byte that stands d back. -/
def copyN : Nat → Nat → List UInt8 → List UInt8
  | 0, _, out => out
  | n + 1, d, out => copyN n d (out ++ [out.getD (out.length - d) 0])
theorem copyN_length : ∀ (n d : Nat) (out : List UInt8), (copyN n d out).length = out.length + n
  | 0, _, _ => rfl
  | n + 1, d, out => by rw [copyN, copyN_length n d]; simp; omega
theorem copyN_succ : ∀ (n d : Nat) (out : List UInt8), copyN (n + 1) d out = copyN n d out ++ [(copyN n d out).getD ((copyN n d out).length - d) 0]
  | 0, d, out => rfl
  | n + 1, d, out => by rw [copyN, copyN_succ n d]; rfl

def step (out : List UInt8) (t : Tok) : List UInt8 := if t.dist = 0 then out ++ [UInt8.ofNat t.byte.toNat] else copyN t.len.toNat t.dist.toNat out

theorem step_length (out : List UInt8) (t : Tok) (m : Int) (h : fitsB t m = true) : ((step out t).length : Int) = out.length + t.len := by
  rw [fits_iff] at h
  unfold step
  split
  · simp; omega
  · rw [copyN_length]; omega

def expand : List UInt8 → List Tok → Option (List UInt8)
  | out, [] => some out
  | out, t :: ts => if fitsB t out.length then expand (step out t) ts else none

theorem expand_append : ∀ (a b : List Tok) (out : List UInt8), expand out (a ++ b) = (expand out a).bind fun o => expand o b
  | [], _, _ => rfl
  | t :: a, b, out => by
    simp only [List.cons_append, expand]
    split
    · exact expand_append a b _
    · rfl

theorem expand_le : ∀ (ts : List Tok) (out o : List UInt8), out.length ≤ 64 → expand out ts = some o → o.length ≤ 64
  | [], out, o, h, e => by simp [expand] at e; subst e; exact h
  | t :: ts, out, o, h, e => by
    simp only [expand] at e
    split at e
    · rename_i hf
      refine expand_le ts _ o ?_ e
      have h1 := step_length out t _ hf
      rw [fits_iff] at hf
      omega
    · cases e

theorem expand_many : ∀ (ts : List Tok) (out o : List UInt8), expand out ts = some o → out.length + ts.length ≤ o.length
  | [], out, o, e => by simp [expand] at e; subst e; simp
  | t :: ts, out, o, e => by
    simp only [expand] at e
    split at e
    · rename_i hf
      have := expand_many ts _ o e
      have h1 := step_length out t _ hf
      rw [fits_iff] at hf
      simp only [List.length_cons]
      omega
    · cases e

theorem take_snoc (l : List Tok) (k : Nat) (h : k < l.length) : l.take (k + 1) = l.take k ++ [l[k]] := List.take_succ_eq_append_getElem h

theorem expand_next (ts : List Tok) (k : Nat) (h : k < ts.length) (out : List UInt8) (e : expand [] (ts.take k) = some out) :
    expand [] (ts.take (k + 1)) = if fitsB ts[k] out.length then some (step out ts[k]) else none := by
  rw [take_snoc ts k h, expand_append, e]
  simp [expand]
theorem expand_stop (ts : List Tok) (k : Nat) (e : expand [] (ts.take (k + 1)) = none) : expand [] ts = none := by
  have : ts = ts.take (k + 1) ++ ts.drop (k + 1) := (List.take_append_drop _ _).symm
  rw [this, expand_append, e]; rfl

/-- How many binary digits v has, less one. -/
def zeros (v : Nat) : Nat := Nat.log2 v
/-- The bits of a number. -/
def numLen (v : Nat) : Nat := 2 * Nat.log2 v + 1
def cost (t : Tok) : Nat := if t.dist = 0 then 9 else 1 + numLen (t.len - 1).toNat + numLen t.dist.toNat
def costs (ts : List Tok) : Nat := (ts.map cost).sum
theorem cost_le (t : Tok) (m : Int) (h0 : 0 ≤ m) (h : fitsB t m = true) : cost t ≤ 31 := by
  rw [fits_iff] at h
  unfold cost numLen
  split
  · omega
  · have a1 : Nat.log2 (t.len - 1).toNat < 8 := by
      rcases Nat.eq_zero_or_pos (t.len - 1).toNat with h0 | h0
      · rw [h0]; decide
      · exact (Nat.log2_lt (by omega)).2 (by omega)
    have a2 : Nat.log2 t.dist.toNat < 8 := by
      rcases Nat.eq_zero_or_pos t.dist.toNat with h0 | h0
      · rw [h0]; decide
      · exact (Nat.log2_lt (by omega)).2 (by omega)
    omega
theorem costs_snoc (ts : List Tok) (t : Tok) : costs (ts ++ [t]) = costs ts + cost t := by simp [costs]

/-- A token whose bits are asked. -/
def plainB (t : Tok) : Prop := t.dist = 0 ∧ 0 ≤ t.byte ∧ t.byte ≤ 255 ∨ 1 ≤ t.dist ∧ t.dist ≤ 32 ∧ 2 ≤ t.len ∧ t.len ≤ 64
theorem expand_all : ∀ (ts : List Tok) (out o : List UInt8), expand out ts = some o → ∀ t ∈ ts, plainB t ∧ cost t ≤ 31
  | [], _, _, _, t, h => by cases h
  | t :: ts, out, o, e, t', h => by
    simp only [expand] at e
    split at e
    · rename_i hf
      rcases List.mem_cons.1 h with rfl | h
      · refine ⟨?_, cost_le _ _ (by omega) hf⟩
        rw [fits_iff] at hf
        unfold plainB
        omega
      · exact expand_all ts _ o e t' h
    · cases e
theorem costs_le : ∀ (ts : List Tok), (∀ t ∈ ts, plainB t ∧ cost t ≤ 31) → costs ts ≤ 31 * ts.length
  | [], _ => by simp [costs]
  | t :: ts, h => by
    have h1 := costs_le ts fun t' ht => h t' (List.mem_cons_of_mem _ ht)
    have h2 := (h t (List.mem_cons_self ..)).2
    simp only [costs, List.map_cons, List.sum_cons, List.length_cons] at *
    omega

/-- Are they right? -/
def okB (ts : List Tok) : Bool := (expand [] ts).isSome
/-- What Cost tells. -/
def costAns (ts : List Tok) : Int := if okB ts then costs ts else 0
theorem okB_some {ts : List Tok} {o : List UInt8} (h : expand [] ts = some o) : okB ts = true := by simp [okB, h]
theorem okB_none {ts : List Tok} (h : expand [] ts = none) : okB ts = false := by simp [okB, h]
theorem costAns_some {ts : List Tok} {o : List UInt8} (h : expand [] ts = some o) : costAns ts = costs ts := by simp [costAns, okB, h]
theorem costAns_none {ts : List Tok} (h : expand [] ts = none) : costAns ts = 0 := by simp [costAns, okB, h]
theorem log2_half (r : Nat) (h : 2 ≤ r) : Nat.log2 r = Nat.log2 (r / 2) + 1 := by
  rw [Nat.log2_def, if_pos h]
theorem numLen_half (r : Nat) (h : 2 ≤ r) : numLen r = numLen (r / 2) + 2 := by
  unfold numLen; rw [log2_half r h]; omega
theorem numLen_one : numLen 1 = 1 := by decide
theorem log2_le_self (v : Nat) (h : v < 256) : Nat.log2 v ≤ 7 := by
  rcases Nat.eq_zero_or_pos v with h0 | h0
  · subst h0; decide
  · have : Nat.log2 v < 8 := (Nat.log2_lt (by omega)).2 (by omega)
    omega
end Tok

/-- The n lowest binary digits of v, the highest first. -/
def bin (v : Nat) : Nat → List Bool
  | 0 => []
  | n + 1 => (v / 2 ^ n % 2 == 1) :: bin v n
theorem bin_length (v : Nat) : ∀ n, (bin v n).length = n
  | 0 => rfl
  | n + 1 => by simp [bin, bin_length v n]
/-- A number's bits. -/
def numBits (v : Nat) : List Bool := List.replicate (Nat.log2 v) false ++ bin v (Nat.log2 v + 1)
theorem numBits_length (v : Nat) : (numBits v).length = Tok.numLen v := by
  simp [numBits, bin_length, Tok.numLen]; omega
theorem bin_zero : ∀ n, bin 0 n = List.replicate n false
  | 0 => rfl
  | n + 1 => by simp [bin, bin_zero n, List.replicate_succ]
/-- A token's bits. -/
def Tok.bits (t : Tok) : List Bool := if t.dist = 0 then false :: bin t.byte.toNat 8 else true :: (numBits (t.len - 1).toNat ++ numBits t.dist.toNat)
theorem Tok.bits_length (t : Tok) : t.bits.length = t.cost := by
  unfold Tok.bits Tok.cost
  split
  · simp [bin_length]
  · simp [numBits_length]; omega
/-- Bits as a text of noughts and ones. -/
def chars (l : List Bool) : List UInt8 := l.map fun b => if b then 49 else 48
theorem chars_append (a b : List Bool) : chars (a ++ b) = chars a ++ chars b := by simp [chars]
theorem chars_length (a : List Bool) : (chars a).length = a.length := by simp [chars]
def text (l : List Bool) : ByteArray := ⟨(chars l).toArray⟩
end Go.Proofs.Ytnpnaglgllcpfab
