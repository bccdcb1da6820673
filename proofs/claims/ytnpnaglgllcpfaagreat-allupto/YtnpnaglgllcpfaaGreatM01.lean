/-
  Lemmas for the law All: Plain, WrPlain, Tok, Exp, Mk.
-/
import Derived.Test.YtnpnaglgllcpfaaGreatRows
import Derived.WalkKit
import Derived.Handy
import Derived.Outline
import Derived.BigGuardPart
import Derived.Deep.QuietTactic
import Derived.BigQuiet
import Derived.WalkSmall
import Derived.SizedLaws
import Derived.OwnWalk
/- Plain facts on tokens, of no program: which tokens may stand where, what they make, how many bits they have. -/
namespace Go.Proofs.YtnpnaglgllcpfaaGreat

structure Tok where
  len : Int
  dist : Int
  byte : Int

namespace Tok
/-- A literal or a copy. -/
def formB (t : Tok) : Bool :=
  (decide (t.dist = 0) && decide (t.len = 1) && decide (0 ≤ t.byte) && decide (t.byte ≤ 255)) ||
  (decide (1 ≤ t.dist) && decide (t.dist ≤ 32) && decide (2 ≤ t.len) && decide (t.byte = 0))
/-- It may stand behind tokens that made m bytes. -/
def fitsB (t : Tok) (m : Int) : Bool := formB t && decide (t.dist ≤ m) && decide (t.len ≤ 64 - m)

theorem fits_iff (t : Tok) (m : Int) : fitsB t m = true ↔
    ((t.dist = 0 ∧ t.len = 1 ∧ 0 ≤ t.byte ∧ t.byte ≤ 255) ∨ (1 ≤ t.dist ∧ t.dist ≤ 32 ∧ 2 ≤ t.len ∧ t.byte = 0)) ∧ t.dist ≤ m ∧ t.len ≤ 64 - m := by
  simp only [fitsB, formB, Bool.and_eq_true, Bool.or_eq_true, decide_eq_true_eq, and_assoc]
theorem form_iff (t : Tok) : formB t = true ↔
    ((t.dist = 0 ∧ t.len = 1 ∧ 0 ≤ t.byte ∧ t.byte ≤ 255) ∨ (1 ≤ t.dist ∧ t.dist ≤ 32 ∧ 2 ≤ t.len ∧ t.byte = 0)) := by
  simp only [formB, Bool.and_eq_true, Bool.or_eq_true, decide_eq_true_eq, and_assoc]

/-- n times the byte that stands d back. -/
def copyN : Nat → Nat → List UInt8 → List UInt8
  | 0, _, out => out
  | n + 1, d, out => copyN n d (out ++ [out.getD (out.length - d) 0])
theorem copyN_length : ∀ (n d : Nat) (out : List UInt8), (copyN n d out).length = out.length + n
  | 0, _, _ => rfl
  | n + 1, d, out => by rw [copyN, copyN_length n d]; simp; omega
theorem copyN_succ : ∀ (n d : Nat) (out : List UInt8), copyN (n + 1) d out = copyN n d out ++ [(copyN n d out).getD ((copyN n d out).length - d) 0]
  | 0, d, out => rfl
  | n + 1, d, out => by rw [copyN, copyN_succ n d]; rfl

def step (out : List UInt8) (t : Tok) : List UInt8 := if t.dist = 0 then out ++ [UInt8.ofNat t.byte.toNat] else copyN t.len.toNat t.dist.toNat out

theorem step_length (out : List UInt8) (t : Tok) (m : Int) (h : fitsB t m = true) : ((step out t).length : Int) = out.length + t.len := by
  rw [fits_iff] at h
  unfold step
  split
  · simp; omega
  · rw [copyN_length]; omega

def expand : List UInt8 → List Tok → Option (List UInt8)
  | out, [] => some out
  | out, t :: ts => if fitsB t out.length then expand (step out t) ts else none

theorem expand_append : ∀ (a b : List Tok) (out : List UInt8), expand out (a ++ b) = (expand out a).bind fun o => expand o b
  | [], _, _ => rfl
  | t :: a, b, out => by
    simp only [List.cons_append, expand]
    split
    · exact expand_append a b _
    · rfl

theorem expand_le : ∀ (ts : List Tok) (out o : List UInt8), out.length ≤ 64 → expand out ts = some o → o.length ≤ 64
  | [], out, o, h, e => by simp [expand] at e; subst e; exact h
  | t :: ts, out, o, h, e => by
    simp only [expand] at e
    split at e
    · rename_i hf
      refine expand_le ts _ o ?_ e
      have h1 := step_length out t _ hf
      rw [fits_iff] at hf
      omega
    · cases e

theorem expand_many : ∀ (ts : List Tok) (out o : List UInt8), expand out ts = some o → out.length + ts.length ≤ o.length
  | [], out, o, e => by simp [expand] at e; subst e; simp
  | t :: ts, out, o, e => by
    simp only [expand] at e
    split at e
    · rename_i hf
      have := expand_many ts _ o e
      have h1 := step_length out t _ hf
      rw [fits_iff] at hf
      simp only [List.length_cons]
      omega
    · cases e

theorem take_snoc (l : List Tok) (k : Nat) (h : k < l.length) : l.take (k + 1) = l.take k ++ [l[k]] := List.take_succ_eq_append_getElem h

theorem expand_next (ts : List Tok) (k : Nat) (h : k < ts.length) (out : List UInt8) (e : expand [] (ts.take k) = some out) :
    expand [] (ts.take (k + 1)) = if fitsB ts[k] out.length then some (step out ts[k]) else none := by
  rw [take_snoc ts k h, expand_append, e]
  simp [expand]
theorem expand_stop (ts : List Tok) (k : Nat) (e : expand [] (ts.take (k + 1)) = none) : expand [] ts = none := by
  have : ts = ts.take (k + 1) ++ ts.drop (k + 1) := (List.take_append_drop _ _).symm
  rw [this, expand_append, e]; rfl

/-- How many binary digits v has, less one. -/
def zeros (v : Nat) : Nat := Nat.log2 v
/-- The bits of a number. -/
def numLen (v : Nat) : Nat := 2 * Nat.log2 v + 1
def cost (t : Tok) : Nat := if t.dist = 0 then 9 else 1 + numLen (t.len - 1).toNat + numLen t.dist.toNat
def costs (ts : List Tok) : Nat := (ts.map cost).sum
theorem cost_le (t : Tok) (m : Int) (h0 : 0 ≤ m) (h : fitsB t m = true) : cost t ≤ 31 := by
  rw [fits_iff] at h
  unfold cost numLen
  split
  · omega
  · have a1 : Nat.log2 (t.len - 1).toNat < 8 := by
      rcases Nat.eq_zero_or_pos (t.len - 1).toNat with h0 | h0
      · rw [h0]; decide
      · exact (Nat.log2_lt (by omega)).2 (by omega)
    have a2 : Nat.log2 t.dist.toNat < 8 := by
      rcases Nat.eq_zero_or_pos t.dist.toNat with h0 | h0
      · rw [h0]; decide
      · exact (Nat.log2_lt (by omega)).2 (by omega)
    omega
theorem costs_snoc (ts : List Tok) (t : Tok) : costs (ts ++ [t]) = costs ts + cost t := by simp [costs]

/-- A token whose bits are asked. -/
def plainB (t : Tok) : Prop := t.dist = 0 ∧ 0 ≤ t.byte ∧ t.byte ≤ 255 ∨ 1 ≤ t.dist ∧ t.dist ≤ 32 ∧ 2 ≤ t.len ∧ t.len ≤ 64
theorem expand_all : ∀ (ts : List Tok) (out o : List UInt8), expand out ts = some o → ∀ t ∈ ts, plainB t ∧ cost t ≤ 31
  | [], _, _, _, t, h => by cases h
  | t :: ts, out, o, e, t', h => by
    simp only [expand] at e
    split at e
    · rename_i hf
      rcases List.mem_cons.1 h with rfl | h
      · refine ⟨?_, cost_le _ _ (by omega) hf⟩
        rw [fits_iff] at hf
        unfold plainB
        omega
      · exact expand_all ts _ o e t' h
    · cases e
theorem costs_le : ∀ (ts : List Tok), (∀ t ∈ ts, plainB t ∧ cost t ≤ 31) → costs ts ≤ 31 * ts.length
  | [], _ => by simp [costs]
  | t :: ts, h => by
    have h1 := costs_le ts fun t' ht => h t' (List.mem_cons_of_mem _ ht)
    have h2 := (h t (List.mem_cons_self ..)).2
    simp only [costs, List.map_cons, List.sum_cons, List.length_cons] at *
    omega

/-- Are they right? -/
def okB (ts : List Tok) : Bool := (expand [] ts).isSome
/-- What Cost tells. -/
def costAns (ts : List Tok) : Int := if okB ts then costs ts else 0
theorem okB_some {ts : List Tok} {o : List UInt8} (h : expand [] ts = some o) : okB ts = true := by simp [okB, h]
theorem okB_none {ts : List Tok} (h : expand [] ts = none) : okB ts = false := by simp [okB, h]
theorem costAns_some {ts : List Tok} {o : List UInt8} (h : expand [] ts = some o) : costAns ts = costs ts := by simp [costAns, okB, h]
theorem costAns_none {ts : List Tok} (h : expand [] ts = none) : costAns ts = 0 := by simp [costAns, okB, h]
theorem log2_half (r : Nat) (h : 2 ≤ r) : Nat.log2 r = Nat.log2 (r / 2) + 1 := by
  rw [Nat.log2_def, if_pos h]
theorem numLen_half (r : Nat) (h : 2 ≤ r) : numLen r = numLen (r / 2) + 2 := by
  unfold numLen; rw [log2_half r h]; omega
theorem numLen_one : numLen 1 = 1 := by decide
theorem log2_le_self (v : Nat) (h : v < 256) : Nat.log2 v ≤ 7 := by
  rcases Nat.eq_zero_or_pos v with h0 | h0
  · subst h0; decide
  · have : Nat.log2 v < 8 := (Nat.log2_lt (by omega)).2 (by omega)
    omega
end Tok

/-- The n lowest binary digits of v, the highest first. -/
def bin (v : Nat) : Nat → List Bool
  | 0 => []
  | n + 1 => (v / 2 ^ n % 2 == 1) :: bin v n
theorem bin_length (v : Nat) : ∀ n, (bin v n).length = n
  | 0 => rfl
  | n + 1 => by simp [bin, bin_length v n]
/-- A number's bits. -/
def numBits (v : Nat) : List Bool := List.replicate (Nat.log2 v) false ++ bin v (Nat.log2 v + 1)
theorem numBits_length (v : Nat) : (numBits v).length = Tok.numLen v := by
  simp [numBits, bin_length, Tok.numLen]; omega
theorem bin_zero : ∀ n, bin 0 n = List.replicate n false
  | 0 => rfl
  | n + 1 => by simp [bin, bin_zero n, List.replicate_succ]
/-- A token's bits. -/
def Tok.bits (t : Tok) : List Bool := if t.dist = 0 then false :: bin t.byte.toNat 8 else true :: (numBits (t.len - 1).toNat ++ numBits t.dist.toNat)
theorem Tok.bits_length (t : Tok) : t.bits.length = t.cost := by
  unfold Tok.bits Tok.cost
  split
  · simp [bin_length]
  · simp [numBits_length]; omega
/-- Bits as a text of noughts and ones. -/
def chars (l : List Bool) : List UInt8 := l.map fun b => if b then 49 else 48
theorem chars_append (a b : List Bool) : chars (a ++ b) = chars a ++ chars b := by simp [chars]
theorem chars_length (a : List Bool) : (chars a).length = a.length := by simp [chars]
def text (l : List Bool) : ByteArray := ⟨(chars l).toArray⟩
end Go.Proofs.YtnpnaglgllcpfaaGreat

/- Plain facts on bits laid into bytes, of no program. -/
namespace Go.Proofs.YtnpnaglgllcpfaaGreat

/-- The number of some bits. -/
def valB (l : List Bool) : Nat := l.foldl (fun n b => 2 * n + b.toNat) 0
theorem valB_snoc (l : List Bool) (b : Bool) : valB (l ++ [b]) = 2 * valB l + b.toNat := by simp [valB]
theorem valB_lt_go : ∀ (l : List Bool) (n k : Nat), n < 2 ^ k → l.foldl (fun n b => 2 * n + b.toNat) n < 2 ^ (k + l.length)
  | [], n, k, h => by simpa using h
  | b :: l, n, k, h => by
    simp only [List.foldl_cons, List.length_cons]
    have := valB_lt_go l (2 * n + b.toNat) (k + 1) (by rw [Nat.pow_succ]; cases b <;> simp [Bool.toNat] <;> omega)
    rwa [show k + (l.length + 1) = k + 1 + l.length by omega]
theorem valB_lt (l : List Bool) : valB l < 2 ^ l.length := by
  have := valB_lt_go l 0 0 (by decide)
  rw [Nat.zero_add] at this
  exact this
theorem valB_lt8 (l : List Bool) (h : l.length ≤ 7) : valB l < 128 :=
  Nat.lt_of_lt_of_le (valB_lt l) (Nat.pow_le_pow_right (n := 2) (by omega) h)

/-- One bit more: full bytes, and the bits of the one that is not full. -/
def wstep (s : List UInt8 × List Bool) (b : Bool) : List UInt8 × List Bool :=
  if s.2.length = 7 then (s.1 ++ [UInt8.ofNat (valB (s.2 ++ [b]))], []) else (s.1, s.2 ++ [b])
def wrun (L : List Bool) : List UInt8 × List Bool := L.foldl wstep ([], [])
theorem wrun_snoc (L : List Bool) (b : Bool) : wrun (L ++ [b]) = wstep (wrun L) b := by simp [wrun]
theorem wrun_inv_go : ∀ (L : List Bool) (s : List UInt8 × List Bool), s.2.length ≤ 7 → (L.foldl wstep s).2.length ≤ 7 ∧ 8 * (L.foldl wstep s).1.length + (L.foldl wstep s).2.length = 8 * s.1.length + s.2.length + L.length
  | [], s, h => ⟨h, by simp⟩
  | b :: L, s, h => by
    simp only [List.foldl_cons, List.length_cons]
    by_cases h7 : s.2.length = 7
    · have := wrun_inv_go L (wstep s b) (by simp [wstep, h7])
      have e : wstep s b = (s.1 ++ [UInt8.ofNat (valB (s.2 ++ [b]))], []) := if_pos h7
      rw [e] at this ⊢
      simp only [List.length_append, List.length_cons, List.length_nil] at this
      exact ⟨this.1, by omega⟩
    · have e : wstep s b = (s.1, s.2 ++ [b]) := if_neg h7
      have := wrun_inv_go L (wstep s b) (by rw [e]; simp; omega)
      rw [e] at this ⊢
      simp only [List.length_append, List.length_cons, List.length_nil] at this
      exact ⟨this.1, by omega⟩
theorem wrun_inv (L : List Bool) : (wrun L).2.length ≤ 7 ∧ 8 * (wrun L).1.length + (wrun L).2.length = L.length := by
  have := wrun_inv_go L ([], []) (by simp)
  simpa [wrun] using this
theorem wrun_full (L : List Bool) (h : L.length % 8 = 0) : (wrun L).2 = [] := by
  have := wrun_inv L
  exact List.eq_nil_of_length_eq_zero (by omega)
theorem wrun_count (L : List Bool) : (wrun L).2.length = L.length % 8 := by
  have := wrun_inv L
  omega
theorem wrun_out_go : ∀ (B : List Bool) (o p : List UInt8) (r : List Bool), B.foldl wstep (o ++ p, r) = (o ++ (B.foldl wstep (p, r)).1, (B.foldl wstep (p, r)).2)
  | [], _, _, _ => rfl
  | b :: B, o, p, r => by
    simp only [List.foldl_cons]
    by_cases h7 : r.length = 7
    · have e1 : wstep (o ++ p, r) b = (o ++ (p ++ [UInt8.ofNat (valB (r ++ [b]))]), []) := by simp [wstep, h7]
      have e2 : wstep (p, r) b = (p ++ [UInt8.ofNat (valB (r ++ [b]))], []) := by simp [wstep, h7]
      rw [e1, e2, wrun_out_go B o]
    · have e1 : wstep (o ++ p, r) b = (o ++ p, r ++ [b]) := by simp [wstep, h7]
      have e2 : wstep (p, r) b = (p, r ++ [b]) := by simp [wstep, h7]
      rw [e1, e2, wrun_out_go B o]
/-- The full bytes of some bits. -/
def toBytes (L : List Bool) : List UInt8 := (wrun L).1
theorem toBytes_append (A B : List Bool) (h : A.length % 8 = 0) : toBytes (A ++ B) = toBytes A ++ toBytes B := by
  have hA := wrun_full A h
  have e : wrun A = (toBytes A ++ [], []) := by rw [List.append_nil, ← hA]; rfl
  show (wrun (A ++ B)).1 = _
  have : wrun (A ++ B) = B.foldl wstep (wrun A) := by simp [wrun, List.foldl_append]
  rw [this, e, wrun_out_go B (toBytes A) [] []]
  rfl
theorem toBytes_eight (l : List Bool) (h : l.length = 8) : toBytes l = [UInt8.ofNat (valB l)] := by
  match l, h with
  | [a, b, c, d, e, f, g, i], _ => simp [toBytes, wrun, wstep, valB]
theorem toBytes_take (L : List Bool) (j : Nat) (h : 8 * j + 8 ≤ L.length) : toBytes (L.take (8 * (j + 1))) = toBytes (L.take (8 * j)) ++ [UInt8.ofNat (valB ((L.drop (8 * j)).take 8))] := by
  have e : L.take (8 * (j + 1)) = L.take (8 * j) ++ (L.drop (8 * j)).take 8 := by
    rw [show 8 * (j + 1) = 8 * j + 8 by omega, List.take_add]
  have h8 : ((L.drop (8 * j)).take 8).length = 8 := by rw [List.length_take, List.length_drop]; omega
  rw [e, toBytes_append _ _ (by rw [List.length_take]; omega), toBytes_eight _ h8]
theorem toBytes_length (L : List Bool) : (toBytes L).length = L.length / 8 := by
  have := wrun_inv L
  show (wrun L).1.length = _
  omega

/-- How many noughts fill the byte. -/
def padN (n : Nat) : Nat := (8 - n % 8) % 8
def fill (L : List Bool) : List Bool := L ++ List.replicate (padN L.length) false
theorem fill_length (L : List Bool) : (fill L).length % 8 = 0 := by simp [fill, padN]; omega
theorem fill_full (L : List Bool) (h : L.length % 8 = 0) : fill L = L := by simp [fill, padN, h]
theorem fill_more (L : List Bool) (h : ¬ L.length % 8 = 0) : fill L = fill (L ++ [false]) := by
  simp only [fill, List.append_assoc, List.length_append, List.length_cons, List.length_nil]
  congr 1
  have : padN L.length = padN (L.length + (0 + 1)) + 1 := by unfold padN; omega
  rw [this, List.replicate_succ]; rfl
theorem fill_append (A B : List Bool) (h : A.length % 8 = 0) : fill (A ++ B) = A ++ fill B := by
  have : padN (A ++ B).length = padN B.length := by simp only [padN, List.length_append]; omega
  unfold fill
  rw [this, List.append_assoc]

theorem valB_go : ∀ (l : List Bool) (n : Nat), l.foldl (fun n b => 2 * n + b.toNat) n = n * 2 ^ l.length + valB l
  | [], n => by simp [valB]
  | b :: l, n => by
    simp only [List.foldl_cons, List.length_cons, valB]
    rw [valB_go l (2 * n + b.toNat), valB_go l (2 * 0 + b.toNat), Nat.pow_succ, Nat.add_mul, Nat.add_mul]
    have : 2 * n * 2 ^ l.length = n * (2 ^ l.length * 2) := by rw [Nat.mul_comm 2 n, Nat.mul_assoc, Nat.mul_comm 2]
    omega
theorem valB_cons (b : Bool) (l : List Bool) : valB (b :: l) = b.toNat * 2 ^ l.length + valB l := by
  show l.foldl _ (2 * 0 + b.toNat) = _
  rw [valB_go l]; simp
theorem bin_val (v : Nat) : ∀ n, valB (bin v n) = v % 2 ^ n
  | 0 => by simp [bin, valB, Nat.mod_one]
  | n + 1 => by
    rw [bin, valB_cons, bin_length, bin_val v n, Nat.mod_pow_succ]
    have h2 : v / 2 ^ n % 2 = 0 ∨ v / 2 ^ n % 2 = 1 := by omega
    rcases h2 with h2 | h2 <;> simp [h2, Nat.add_comm]
theorem bin_eight_value (v : Nat) (h : v < 256) : toBytes (bin v 8) = [UInt8.ofNat v] := by
  rw [toBytes_eight _ (bin_length v 8), bin_val, Nat.mod_eq_of_lt (by omega)]
end Go.Proofs.YtnpnaglgllcpfaaGreat

/- What the program's, and the document's, small functions on one token answer. -/
namespace Go.Proofs.YtnpnaglgllcpfaaGreat
set_option maxRecDepth 100000
open Go.RowKit

theorem ret_bool {a b : Bool} (h : a = b) : Ending.returned (.bool a) = .returned (.bool b) := by rw [h]
theorem ret_i64 {a b : Int} (h : a = b) : Ending.returned (.int .i64 a) = .returned (.int .i64 b) := by rw [h]
theorem ret_str {a b : ByteArray} (h : a = b) : Ending.returned (.string a) = .returned (.string b) := by rw [h]
set_option maxHeartbeats 400000 in
theorem fits_calls (l d b m : Int) (w : World) (h0 : 0 ≤ m) (h1 : m ≤ 64) :
    Calls Tryz.prog 89 #[.agg #[.int .i64 l, .int .i64 d, .int .i64 b], .int .i64 m] w fun e w' => e = .returned (.bool (Tok.fitsB ⟨l, d, b⟩ m)) ∧ Below w.heap.size w w' := by
  go_enter Tryz.func89, Tryz.ntmps89
  go_wp2
  all_goals
    go_ret
    refine ⟨ret_bool ?_, by go_grown⟩
    rw [Bool.eq_iff_iff, Tok.fits_iff]
    simp at *
    omega
theorem numberLength_calls (v : Int) (w : World) (h0 : 1 ≤ v) (h1 : v ≤ 65) :
    Calls Tryz.prog 112 #[.int .i64 v] w fun e w' => e = .returned (.int .i64 (Tok.numLen v.toNat)) ∧ w' = w := by
  obtain ⟨n, rfl⟩ := Int.eq_ofNat_of_zero_le (show 0 ≤ v by omega)
  rw [Int.toNat_natCast]
  have hb : Tok.numLen n ≤ 15 := by have := Tok.log2_le_self n (by omega); unfold Tok.numLen; omega
  have HN : Hid (Tok.numLen n = Tok.numLen n) := rfl
  go_enter Tryz.func112, Tryz.ntmps112
  go_wp2
  go_loop [3, 4] (fun l i => ∃ r k : Nat, 1 ≤ r ∧ r ≤ 65 ∧ i = .int .i64 r ∧ l = .int .i64 k ∧ k + Tok.numLen r = Tok.numLen n + 1) (fun _ i => (intOf i).toNat)
  case atStart => exact ⟨n, 1, by omega, by omega, rfl, rfl, by omega⟩
  case round =>
    obtain ⟨r, k, hr0, hr1, rfl, rfl, hk⟩ := hrel
    by_cases hlt : 1 < r
    · have hh := Tok.numLen_half r hlt
      go_wp2
      go_round
      case rel => exact ⟨r / 2, k + 2, by omega, by omega, by go_num, by go_num, by omega⟩
      case measure => simp [intOf]; omega
    · have hr : r = 1 := by omega
      subst hr
      rw [Tok.numLen_one] at hk
      have HK : Hid (k = Tok.numLen n) := show k = _ by omega
      clear hk
      go_wp2
      go_ret
      exact ⟨ret_i64 (by rw [HK.out]), rfl⟩
theorem costOf_calls (l d b : Int) (w : World) (h : d = 0 ∨ 1 ≤ d ∧ d ≤ 32 ∧ 2 ≤ l ∧ l ≤ 64) :
    Calls Tryz.prog 90 #[.agg #[.int .i64 l, .int .i64 d, .int .i64 b]] w fun e w' => e = .returned (.int .i64 (Tok.cost ⟨l, d, b⟩)) ∧ Below w.heap.size w w' := by
  rcases h with h | h
  · have hd : (d == 0) = true := by simpa using h
    have HC : Hid (Tok.cost ⟨l, d, b⟩ = 9) := by unfold Tok.cost; exact if_pos h
    clear h
    go_enter Tryz.func90, Tryz.ntmps90
    go_wp2
    go_ret
    exact ⟨ret_i64 (by rw [HC.out]; rfl), by go_grown⟩
  · obtain ⟨a1, a2, a3, a4⟩ := h
    have hd : (d == 0) = false := by simp; omega
    have HC : Hid (Tok.cost ⟨l, d, b⟩ = 1 + Tok.numLen (l - 1).toNat + Tok.numLen d.toNat) := by unfold Tok.cost; exact if_neg (show ¬ d = 0 by omega)
    have b1 : Tok.numLen (l - 1).toNat ≤ 15 := by have := Tok.log2_le_self (l - 1).toNat (by omega); unfold Tok.numLen; omega
    have b2 : Tok.numLen d.toNat ≤ 15 := by have := Tok.log2_le_self d.toNat (by omega); unfold Tok.numLen; omega
    go_enter Tryz.func90, Tryz.ntmps90
    go_wp2_with fail
    refine (numberLength_calls _ _ (by omega) (by omega)).mono ?_
    rintro e w' ⟨rfl, rfl⟩
    generalize Tok.numLen (l - 1).toNat = N1 at *
    go_wp2_with fail
    refine (numberLength_calls _ _ (by omega) (by omega)).mono ?_
    rintro e w' ⟨rfl, rfl⟩
    generalize Tok.numLen d.toNat = N2 at *
    go_wp2_with fail
    go_ret
    exact ⟨ret_i64 (by rw [HC.out]; omega), by go_grown⟩
theorem bin_text (v n : Nat) : (⟨#[if v / 2 ^ n % 2 == 1 then 49 else 48]⟩ : ByteArray) ++ text (bin v n) = text (bin v (n + 1)) := by
  apply ByteArray.ext
  simp [text, chars, bin]
theorem text_size (v n : Nat) : (text (bin v n)).size = n := by simp [text, chars, bin_length, ByteArray.size]
theorem text_append (a b : List Bool) : text (a ++ b) = text a ++ text b := by
  apply ByteArray.ext
  simp [text, chars]
theorem lit_text (l : List Bool) : (⟨#[48]⟩ : ByteArray) ++ text l = text (false :: l) := by
  apply ByteArray.ext
  simp [text, chars]
theorem copy_text (l m : List Bool) : (⟨#[49]⟩ : ByteArray) ++ text l ++ text m = text (true :: (l ++ m)) := by
  apply ByteArray.ext
  simp [text, chars]
end Go.Proofs.YtnpnaglgllcpfaaGreat

/- What the program's, and the document's, functions on a list of tokens answer: what the tokens make, or that they are not right; their cost. -/
namespace Go.Proofs.YtnpnaglgllcpfaaGreat
set_option maxRecDepth 100000
open Go.RowKit

/-- The tokens lie in memory, at a. -/
def ToksAt (w : World) (a : Option Addr) (ts : List Tok) : Prop :=
  ts = [] ∨ ∃ b off, a = some ⟨b, off, none⟩ ∧ b < w.heap.size ∧ ∀ i (hi : i < ts.length),
    w.cell? ⟨b, off + i * 3, none⟩ = some (.int .i64 ts[i].len) ∧ w.cell? ⟨b, off + i * 3 + 1, none⟩ = some (.int .i64 ts[i].dist) ∧ w.cell? ⟨b, off + i * 3 + 2, none⟩ = some (.int .i64 ts[i].byte)

theorem ToksAt.below {w w' : World} {a : Option Addr} {ts : List Tok} (h : ToksAt w a ts) (hb : Below w.heap.size w w') : ToksAt w' a ts := by
  rcases h with h | ⟨b, off, rfl, hlt, h⟩
  · exact .inl h
  · refine .inr ⟨b, off, rfl, Nat.lt_of_lt_of_le hlt hb.size, fun i hi => ?_⟩
    rw [hb.cell (p := ⟨b, _, none⟩) hlt, hb.cell (p := ⟨b, _, none⟩) hlt, hb.cell (p := ⟨b, _, none⟩) hlt]
    exact h i hi

theorem bcell {W w1 : World} (hb : Below W.heap.size W w1) : (∀ b o, b < W.heap.size → w1.cell? ⟨b, o, none⟩ = W.cell? ⟨b, o, none⟩) ∧ (∀ b o, b < W.heap.size → w1.frozen? ⟨b, o, none⟩ = W.frozen? ⟨b, o, none⟩) :=
  ⟨fun b o h => hb.cell (p := ⟨b, o, none⟩) h, fun b o h => hb.frozen (p := ⟨b, o, none⟩) h⟩

theorem ret_two {a b c d : Value} (h : a = c) (k : b = d) : Ending.returned (.tuple #[a, b]) = .returned (.tuple #[c, d]) := by rw [h, k]

set_option maxHeartbeats 400000 in
theorem cost_calls (a : Option Addr) (ts : List Tok) (cap : Nat) (w : World) (hl : ts.length ≤ 9223372036854775807) (ht : ToksAt w a ts) :
    Calls Tryz.prog 61 #[.slice a ts.length cap] w fun e w' => Below w.heap.size w w' ∧
      e = .returned (.tuple #[.int .i64 (Tok.costAns ts), .bool (Tok.okB ts)]) := by
  have HT : Hid (ToksAt w a ts) := ht
  clear ht
  go_enter Tryz.func61, Tryz.ntmps61
  go_wp2
  go_loopw [4, 5, 10] (fun m c i wr => ∃ (k : Nat) (out : List UInt8), k ≤ ts.length ∧ i = .int .i64 k ∧ Hid (Tok.expand [] (ts.take k) = some out) ∧ out.length ≤ 64 ∧ m = .int .i64 out.length ∧ c = .int .i64 (Tok.costs (ts.take k)) ∧ Tok.costs (ts.take k) ≤ 31 * k ∧ k ≤ out.length ∧ Below w.heap.size w wr) (fun _ _ i _ => ts.length - (intOf i).toNat)
  case atStart => exact ⟨0, [], Nat.zero_le _, rfl, rfl, by simp, rfl, rfl, by simp [Tok.costs], by simp, Below.refl _ _⟩
  case round =>
    obtain ⟨k, out, hk, rfl, he, hm, rfl, rfl, hcb, hko, hb⟩ := hrel
    by_cases hlt : k < ts.length
    · obtain ⟨b, off, ha, hbl, hcell⟩ : ∃ b off, a = some ⟨b, off, none⟩ ∧ b < wr.heap.size ∧ ∀ i (hi : i < ts.length),
          wr.cell? ⟨b, off + i * 3, none⟩ = some (.int .i64 ts[i].len) ∧ wr.cell? ⟨b, off + i * 3 + 1, none⟩ = some (.int .i64 ts[i].dist) ∧ wr.cell? ⟨b, off + i * 3 + 2, none⟩ = some (.int .i64 ts[i].byte) := by
        rcases HT.out.below hb with h | h
        · rw [h] at hlt; simp at hlt
        · exact h
      subst ha
      obtain ⟨c0, c1, c2⟩ := hcell k hlt
      clear hcell
      have HN := Tok.expand_next ts k hlt out he.out
      have HC : Tok.costs (ts.take (k + 1)) = Tok.costs (ts.take k) + Tok.cost ts[k] := by rw [Tok.take_snoc ts k hlt, Tok.costs_snoc]
      generalize ts[k] = t at *
      obtain ⟨l, d, x⟩ := t
      simp only at c0 c1 c2
      generalize hC : Tok.costs (ts.take k) = C at *
      have HN' : Hid _ := HN
      have HC' : Hid _ := HC
      have HC0 : Hid _ := hC
      clear HN HC hC
      go_wp2_with fail
      refine (fits_calls l d x _ _ (by omega) (by omega)).mono ?_
      rintro e w1 ⟨rfl, hb1⟩
      have hz1 : wr.heap.size + 1 ≤ w1.heap.size := by have := hb1.size; simpa using this
      obtain ⟨hc, hf⟩ := bcell hb1
      have hbw : Below w.heap.size w w1 := (hb.alloc (by have := hb.size; omega) _).trans (hb1.mono (by have := hb.size; simp; omega))
      by_cases hfit : Tok.fitsB ⟨l, d, x⟩ out.length = true
      · have hi := (Tok.fits_iff _ _).1 hfit
        have hcl := Tok.cost_le _ _ (by omega) hfit
        have hsl := Tok.step_length out _ _ hfit
        simp only at hi hsl
        have HN'' : Tok.expand [] (ts.take (k + 1)) = some (Tok.step out ⟨l, d, x⟩) := by rw [HN'.out, if_pos hfit]
        have HN3 : Hid _ := HN''
        clear HN'' HN' hb1
        have hl64 : l ≤ 64 - (out.length : Int) := by omega
        have hl1 : 1 ≤ l := by omega
        have hdl : d = 0 ∨ 1 ≤ d ∧ d ≤ 32 ∧ 2 ≤ l ∧ l ≤ 64 := by omega
        have HI : Hid _ := hi
        clear hi
        go_wp2_with fail
        refine (costOf_calls l d x _ hdl).mono ?_
        rintro e w2 ⟨rfl, hb2⟩
        have hbw2 : Below w.heap.size w w2 := hbw.trans (hb2.mono (by have := hb.size; omega))
        generalize hT : Tok.cost ⟨l, d, x⟩ = c at *
        have HT' : Hid _ := hT
        clear hT
        go_wp2
        go_roundw
        case rel =>
          have e1 : Tok.costs (ts.take (k + 1)) = C + c := by rw [HC'.out]
          exact ⟨k + 1, _, by omega, by go_num, HN3, by omega, by go_num, by rw [e1]; go_num, by rw [e1]; omega, by omega, hbw2⟩
        case measure => simp [intOf]; omega
      · have hff : Tok.fitsB ⟨l, d, x⟩ out.length = false := by simpa using hfit
        have HE : Hid (Tok.expand [] ts = none) := Tok.expand_stop ts k (by rw [HN'.out, hff]; rfl)
        clear hfit hb1
        go_wp2
        go_ret2
        exact ⟨hbw, by rw [Tok.okB_none HE.out, Tok.costAns_none HE.out]; rfl⟩
    · have hke : k = ts.length := by omega
      have HE : Hid (Tok.expand [] ts = some out) := by have := he.out; rw [hke, List.take_length] at this; exact this
      have HC : Hid (Tok.costs (ts.take k) = Tok.costs ts) := by rw [hke, List.take_length]; rfl
      clear hke
      generalize hC : Tok.costs (ts.take k) = C at *
      have HC0 : Hid _ := hC
      clear hC
      go_wp2
      go_ret2
      refine ⟨hb, ret_two ?_ ?_⟩
      · rw [Tok.costAns_some HE.out, ← HC.out]; rfl
      · rw [Tok.okB_some HE.out]; rfl
end Go.Proofs.YtnpnaglgllcpfaaGreat

/- What the program's Expand answers of tokens in memory. -/
namespace Go.Proofs.YtnpnaglgllcpfaaGreat
set_option maxRecDepth 100000
open Go.RowKit

/-- Bytes as cells. -/
def cellsB (l : List UInt8) : List Value := l.map fun c => .int .u8 c.toNat
theorem cellsB_snoc (l : List UInt8) (c : UInt8) : cellsB (l ++ [c]) = cellsB l ++ [.int .u8 c.toNat] := by simp [cellsB]
theorem cellsB_length (l : List UInt8) : (cellsB l).length = l.length := by simp [cellsB]

/-- The slice v is the call's own (from block B on) and holds these bytes. -/
def OwnB (w : World) (B : Nat) (v : Value) (out : List UInt8) : Prop := w.ownsRow B 5 1 v out.length (cellsB out)

/-- A token in a box. -/
def Box (w : World) (q : Nat) (l d x : Int) : Prop := w.heap[q]? = some (.cells #[.int .i64 l, .int .i64 d, .int .i64 x] 42 (0, 0))

theorem Box.cell {w : World} {q : Nat} {l d x : Int} (h : Box w q l d x) : w.cell? ⟨q, 0, none⟩ = some (.int .i64 l) ∧ w.cell? ⟨q, 1, none⟩ = some (.int .i64 d) ∧ w.cell? ⟨q, 2, none⟩ = some (.int .i64 x) := by
  unfold Box at h
  simp [World.cell?, h]
theorem Box.lt {w : World} {q : Nat} {l d x : Int} (h : Box w q l d x) : q < w.heap.size := (Array.getElem?_eq_some_iff.1 h).1
theorem Box.alloc {w : World} {q : Nat} {l d x : Int} (h : Box w q l d x) (o : Obj) : Box (w.alloc o) q l d x := by
  unfold Box
  rw [Below.heap_alloc w o q h.lt]; exact h
theorem Box.below {w w' : World} {q B : Nat} {l d x : Int} (h : Box w q l d x) (hb : Below B w w') (hq : q < B) : Box w' q l d x := by
  unfold Box
  rw [hb.block q hq]; exact h
theorem Box.ne {w : World} {q B n : Nat} {l d x : Int} {v : Value} {xs : List Value} (h : Box w q l d x) (ho : w.ownsRow B 5 1 v n xs) : some q ≠ v.ownBlock := by
  rcases ho.2 with ⟨rfl, _⟩ | ⟨g, cap, cur, rfl, _, hg, _⟩
  · simp [Value.ownBlock]
  · intro e
    simp [Value.ownBlock] at e
    subst e
    unfold Box at h
    rw [h] at hg
    simp at hg
theorem Box.grown {w w' : World} {q B n : Nat} {l d x : Int} {v : Value} {xs : List Value} (h : Box w q l d x) (ho : w.ownsRow B 5 1 v n xs) (hg : w.grownBy w' v.ownBlock) : Box w' q l d x := by
  unfold Box
  rw [hg.block q h.lt (h.ne ho)]; exact h

theorem info8 : (Tryz.prog.info? 5).map (fun i => (i.zero, i.size, i.bytes)) = some (some (.int .u8 0), 1, 1) := by kernel_rfl

/-- What is owned, read at a place. -/
theorem OwnB.at {w : World} {B : Nat} {v : Value} {out : List UInt8} (h : OwnB w B v out) (hne : 0 < out.length) : ∃ g cap, v = .slice (some ⟨g, 0, none⟩) out.length cap ∧ B ≤ g ∧ g < w.heap.size ∧ ∀ i, i < out.length → w.cell? ⟨g, i, none⟩ = some (.int .u8 (out.getD i 0).toNat) := by
  have h' := h
  rcases h.2 with ⟨rfl, hn⟩ | ⟨g, cap, cur, rfl, hb, hg, _⟩
  · omega
  · refine ⟨g, cap, rfl, hb, (Array.getElem?_eq_some_iff.1 hg).1, fun i hi => ?_⟩
    have := World.ownsRow.cells h' (g := g) rfl i (.int .u8 (out.getD i 0).toNat) (by simp [cellsB, hi])
    have hadd : (⟨g, 0, none⟩ : Addr).add i = ⟨g, i, none⟩ := by unfold Addr.add; split <;> simp_all
    rwa [hadd] at this

theorem OwnB.form {w : World} {B : Nat} {v : Value} {out : List UInt8} (h : OwnB w B v out) : ∃ ao cp, v = .slice ao out.length cp := by
  rcases h.2 with ⟨rfl, hn⟩ | ⟨g, cap, cur, rfl, _⟩
  · exact ⟨none, 0, by rw [hn]⟩
  · exact ⟨_, _, rfl⟩

theorem OwnB.below {w w' : World} {B : Nat} {v : Value} {out : List UInt8} (h : OwnB w B v out) (hb : Below w.heap.size w w') : OwnB w' B v out :=
  World.ownsRow.kept h (row := none) ⟨hb.os, hb.tape, hb.output, hb.size, fun k hk _ => hb.block k hk⟩ (by cases hv : v.ownBlock <;> simp)
theorem OwnB.alloc {w : World} {B : Nat} {v : Value} {out : List UInt8} (h : OwnB w B v out) (o : Obj) : OwnB (w.alloc o) B v out := World.ownsRow.alloc h o
theorem below_own {B0 B : Nat} {w w1 w2 : World} {v : Value} {n : Nat} {xs : List Value} (hb : Below B w w1) (ho : w1.ownsRow B0 5 1 v n xs) (hg : w1.grownBy w2 v.ownBlock) (h0 : B ≤ B0) (hB : B ≤ w1.heap.size) : Below B w w2 :=
  hb.grown hg hB (fun k hk => Nat.le_trans h0 (ho.lt k hk).1)

theorem cell_new1 (w : World) (u : Value) (t : TypeId) (j : Nat) (v : Value) (hj : [u][j]? = some v) : (w.alloc (.cells #[u] t)).cell? ((⟨w.heap.size, 0, none⟩ : Addr).add j) = some v := by
  match j, hj with
  | 0, hj => simp at hj; subst hj; simp [Addr.add]

/-- How Expand ends. -/
def ExpAns (B : Nat) (ts : List Tok) (e : Ending) (w' : World) : Prop :=
  (Tok.expand [] ts = none ∧ e = .returned (.tuple #[.slice none 0 0, .bool false])) ∨
  ∃ out v, Tok.expand [] ts = some out ∧ out.length ≤ 64 ∧ e = .returned (.tuple #[v, .bool true]) ∧ OwnB w' B v out

set_option maxHeartbeats 1000000 in
theorem expand_calls (a : Option Addr) (ts : List Tok) (cap : Nat) (w : World) (hl : ts.length ≤ 9223372036854775807) (ht : ToksAt w a ts) :
    Calls Tryz.prog 60 #[.slice a ts.length cap] w fun e w' => Below w.heap.size w w' ∧ ExpAns w.heap.size ts e w' := by
  have HT : Hid (ToksAt w a ts) := ht
  clear ht
  obtain ⟨i0, hi, hz0, hz1, hz2⟩ := info_parts info8
  go_enter Tryz.func60, Tryz.ntmps60
  go_wp2
  go_loopw [4, 11] (fun v i wr => ∃ (k : Nat) (out : List UInt8), k ≤ ts.length ∧ i = .int .i64 k ∧ Hid (Tok.expand [] (ts.take k) = some out) ∧ out.length ≤ 64 ∧ OwnB wr w.heap.size v out ∧ Below w.heap.size w wr) (fun _ i _ => ts.length - (intOf i).toNat)
  case atStart => exact ⟨0, [], Nat.zero_le _, rfl, rfl, by simp, World.ownsRow_nil _ _ _ _, Below.refl _ _⟩
  case round =>
    obtain ⟨k, out, hk, rfl, he, hm, hown, hb⟩ := hrel
    by_cases hlt : k < ts.length
    · obtain ⟨b, off, ha, hbl, hcell⟩ : ∃ b off, a = some ⟨b, off, none⟩ ∧ b < wr.heap.size ∧ ∀ i (hi : i < ts.length),
          wr.cell? ⟨b, off + i * 3, none⟩ = some (.int .i64 ts[i].len) ∧ wr.cell? ⟨b, off + i * 3 + 1, none⟩ = some (.int .i64 ts[i].dist) ∧ wr.cell? ⟨b, off + i * 3 + 2, none⟩ = some (.int .i64 ts[i].byte) := by
        rcases HT.out.below hb with h | h
        · rw [h] at hlt; simp at hlt
        · exact h
      subst ha
      obtain ⟨c0, c1, c2⟩ := hcell k hlt
      clear hcell
      have HN := Tok.expand_next ts k hlt out he.out
      generalize ts[k] = t at *
      obtain ⟨l, d, x⟩ := t
      simp only at c0 c1 c2
      have HN' : Hid _ := HN
      clear HN
      obtain ⟨ao, cp, rfl⟩ := hown.form
      have HO : Hid _ := hown
      clear hown
      go_wp2_with fail
      refine (fits_calls l d x _ _ (by omega) (by omega)).mono ?_
      rintro e w1 ⟨rfl, hb1⟩
      have hq1 : wr.heap.size < w1.heap.size := by have := hb1.size; simp at this; omega
      have hwz : w.heap.size ≤ wr.heap.size := hb.size
      have hbw : Below w.heap.size w w1 := (hb.alloc hwz _).trans (hb1.mono (by simp; omega))
      have hbox : Box w1 wr.heap.size l d x := Box.below (w := wr.alloc _) (heap_alloc_new wr _) hb1 (by simp)
      have hown : OwnB w1 w.heap.size (.slice ao out.length cp) out := (OwnB.alloc HO.out _).below hb1
      obtain ⟨x0, x1, x2⟩ := hbox.cell
      clear HO hb1 c0 c1 c2 hb
      have HB : Hid _ := hbox
      have HO : Hid _ := hown
      clear hbox hown
      generalize wr.heap.size = q at *
      by_cases hfit : Tok.fitsB ⟨l, d, x⟩ out.length = true
      · have hi' := (Tok.fits_iff _ _).1 hfit
        have hsl := Tok.step_length out _ _ hfit
        simp only at hi' hsl
        have HN'' : Tok.expand [] (ts.take (k + 1)) = some (Tok.step out ⟨l, d, x⟩) := by rw [HN'.out, if_pos hfit]
        have HN3 : Hid _ := HN''
        clear HN'' HN'
        have hl64 : l ≤ 64 - (out.length : Int) := by omega
        rcases hi'.1 with ⟨e1, e2, e3, e4⟩ | ⟨e1, e2, e3, e4⟩
        · have hd0 : (d == 0) = true := by simpa using e1
          have HS : Hid (Tok.step out ⟨l, d, x⟩ = out ++ [UInt8.ofNat x.toNat]) := by unfold Tok.step; exact if_pos e1
          clear e1 e2 hi'
          go_wp2_with (at_builtin; refine wpList_append_own _ rfl _ _ 37 rfl w.heap.size 5 i0 (.int .u8 0) 1 1 Tryz.underlying37 hi hz0 hz1 hz2 rfl (by decide) _ _ _ rfl (HO.out.alloc _) ⟨w1.heap.size, 0, none⟩ 1 1 [.int .u8 x] rfl rfl ?c1 ?c2 ?c3 ?c4 ?c5 ?_)
          case c1 => intro j u hj; exact cell_new1 _ _ _ j u hj
          case c2 => intro u hu; simp at hu; subst hu; rfl
          case c3 => unfold maxLen; omega
          case c4 => omega
          case c5 => simp; omega
          intro v' w2 hown' hgrow _
          have hbw2 : Below w.heap.size w w2 := below_own (hbw.alloc (by omega) _) (HO.out.alloc _) hgrow (Nat.le_refl _) (by simp; omega)
          have hown2 : OwnB w2 w.heap.size v' (Tok.step out ⟨l, d, x⟩) := by
            rw [HS.out]
            have e5 : ((UInt8.ofNat x.toNat).toNat : Int) = x := by simp; omega
            unfold OwnB
            rw [cellsB_snoc, e5, List.length_append]
            exact hown'
          clear hown' hgrow
          go_wp2
          go_roundw
          case rel => exact ⟨k + 1, _, by omega, by go_num, HN3, by omega, hown2, hbw2⟩
          case measure => simp [intOf]; omega
        · obtain ⟨L, rfl⟩ : ∃ L : Nat, l = (L : Int) := ⟨l.toNat, by omega⟩
          obtain ⟨D, rfl⟩ : ∃ D : Nat, d = (D : Int) := ⟨d.toNat, by omega⟩
          have hd0 : ((D : Int) == 0) = false := by simp; omega
          have hDo : D ≤ out.length := by omega
          have HS : Hid (Tok.step out ⟨L, D, x⟩ = Tok.copyN L D out) := by
            unfold Tok.step
            refine (if_neg (show ¬ (D : Int) = 0 by omega)).trans ?_
            simp
          clear e4 hi'
          go_wp2_with fail
          go_loopw [4, 7] (fun v i wq => ∃ (j : Nat), j ≤ L ∧ i = .int .i64 j ∧ OwnB wq w.heap.size v (Tok.copyN j D out) ∧ Box wq q L D x ∧ Below w.heap.size w wq) (fun _ i _ => L - (intOf i).toNat)
          case atStart => exact ⟨0, Nat.zero_le _, rfl, HO.out, HB.out, hbw⟩
          case round =>
            obtain ⟨j, hj, rfl, hownj, hboxj, hbj⟩ := hrel
            by_cases hjl : j < L
            · have hlen := Tok.copyN_length j D out
              have hsucc : Hid (Tok.copyN (j + 1) D out = Tok.copyN j D out ++ [(Tok.copyN j D out).getD ((Tok.copyN j D out).length - D) 0]) := Tok.copyN_succ j D out
              have hlen1 : out.length ≤ (Tok.copyN j D out).length := by omega
              have hlen2 : (Tok.copyN j D out).length ≤ 63 := by omega
              clear hlen
              generalize Tok.copyN j D out = o at *
              obtain ⟨g, cq, hv, hg0, hg1, hgc⟩ := hownj.at (by omega)
              subst hv
              have hgc' := hgc (o.length - D) (by omega)
              clear hgc
              obtain ⟨y0, y1, y2⟩ := hboxj.cell
              have hbq : w.heap.size ≤ wr.heap.size := hbj.size
              have HOJ : Hid _ := hownj
              have HBJ : Hid _ := hboxj
              clear hownj hboxj
              generalize o.getD (o.length - D) 0 = c at *
              have hcn : c.toNat < 256 := c.toNat_lt
              go_wp2_with (at_builtin; refine wpList_append_own _ rfl _ _ 37 rfl w.heap.size 5 i0 (.int .u8 0) 1 1 Tryz.underlying37 hi hz0 hz1 hz2 rfl (by decide) _ _ _ rfl (HOJ.out.alloc _) ⟨wr.heap.size, 0, none⟩ 1 1 [.int .u8 c.toNat] rfl rfl ?d1 ?d2 ?d3 ?d4 ?d5 ?_)
              case d1 => intro j u hj; exact cell_new1 _ _ _ j u hj
              case d2 => intro u hu; simp at hu; subst hu; rfl
              case d3 => unfold maxLen; omega
              case d4 => omega
              case d5 => simp; omega
              intro v' w2 hown' hgrow _
              have hbw2 : Below w.heap.size w w2 := below_own (hbj.alloc (by omega) _) (HOJ.out.alloc _) hgrow (Nat.le_refl _) (by simp; omega)
              have hbox2 : Box w2 q L D x := Box.grown (Box.alloc HBJ.out _) (HOJ.out.alloc _) hgrow
              have hown2 : OwnB w2 w.heap.size v' (Tok.copyN (j + 1) D out) := by
                rw [hsucc.out]
                unfold OwnB
                rw [cellsB_snoc, List.length_append]
                exact hown'
              clear hown' hgrow
              go_wp2
              go_roundw
              case rel => exact ⟨j + 1, by omega, by go_num, hown2, hbox2, hbw2⟩
              case measure => simp [intOf]; omega
            · have hje : j = L := by omega
              subst hje
              rw [← HS.out] at hownj
              have HOJ : Hid _ := hownj
              clear hownj
              obtain ⟨y0, y1, y2⟩ := hboxj.cell
              clear hboxj
              go_wp2
              go_roundw
              case rel => exact ⟨k + 1, _, by omega, by go_num, HN3, by omega, HOJ.out, hbj⟩
              case measure => simp [intOf]; omega
      · have hff : Tok.fitsB ⟨l, d, x⟩ out.length = false := by simpa using hfit
        have HE : Hid (Tok.expand [] ts = none) := Tok.expand_stop ts k (by rw [HN'.out, hff]; rfl)
        clear hfit
        go_wp2
        go_ret2
        exact ⟨hbw, .inl ⟨HE.out, rfl⟩⟩
    · have hke : k = ts.length := by omega
      have HE : Hid (Tok.expand [] ts = some out) := by have := he.out; rw [hke, List.take_length] at this; exact this
      clear hke
      have HO : Hid _ := hown
      clear hown
      go_wp2
      go_ret2
      exact ⟨hb, .inr ⟨out, _, HE.out, hm, rfl, HO.out⟩⟩
end Go.Proofs.YtnpnaglgllcpfaaGreat
