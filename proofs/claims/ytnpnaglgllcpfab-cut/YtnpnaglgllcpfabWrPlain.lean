/-
  Plain facts on bits laid into bytes, of no program.
-/
import Derived.Test.YtnpnaglgllcpfabPlain
namespace Go.Proofs.Ytnpnaglgllcpfab

/-- The number of some bits. -/
def valB (l : List Bool) : Nat := l.foldl (fun n b => 2 * n + b.toNat) 0
theorem valB_snoc (l : List Bool) (b : Bool) : valB (l ++ [b]) = 2 * valB l + b.toNat := by simp [valB]
theorem valB_lt_go : ∀ (l : List Bool) (n k : Nat), n < 2 ^ k → l.foldl (fun n b => 2 * n + b.toNat) n < 2 ^ (k + l.length)
  | [], n, k, h => by simpa using h
  | b :: l, n, k, h => by
    simp only [List.foldl_cons, List.length_cons]
    have := valB_lt_go l (2 * n + b.toNat) (k + 1) (by rw [Nat.pow_succ]; cases b <;> simp [Bool.toNat] <;> omega)
    rwa [show k + (l.length + 1) = k + 1 + l.length by omega]
theorem valB_lt (l : List Bool) : valB l < 2 ^ l.length := by
  have := valB_lt_go l 0 0 (by decide)
  rw [Nat.zero_add] at this
  exact this
theorem valB_lt8 (l : List Bool) (h : l.length ≤ 7) : valB l < 128 :=
  Nat.lt_of_lt_of_le (valB_lt l) (Nat.pow_le_pow_right (n := 2) (by omega) h)

/-- One bit more: full bytes, and the bits of the one that is not full. -/
def wstep (s : List UInt8 × List Bool) (b : Bool) : List UInt8 × List Bool :=
  if s.2.length = 7 then (s.1 ++ [UInt8.ofNat (valB (s.2 ++ [b]))], []) else (s.1, s.2 ++ [b])
def wrun (L : List Bool) : List UInt8 × List Bool := L.foldl wstep ([], [])
theorem wrun_snoc (L : List Bool) (b : Bool) : wrun (L ++ [b]) = wstep (wrun L) b := by simp [wrun]
theorem wrun_inv_go : ∀ (L : List Bool) (s : List UInt8 × List Bool), s.2.length ≤ 7 → (L.foldl wstep s).2.length ≤ 7 ∧ 8 * (L.foldl wstep s).1.length + (L.foldl wstep s).2.length = 8 * s.1.length + s.2.length + L.length
  | [], s, h => ⟨h, by simp⟩
  | b :: L, s, h => by
    simp only [List.foldl_cons, List.length_cons]
    by_cases h7 : s.2.length = 7
    · have := wrun_inv_go L (wstep s b) (by simp [wstep, h7])
      have e : wstep s b = (s.1 ++ [UInt8.ofNat (valB (s.2 ++ [b]))], []) := if_pos h7
      rw [e] at this ⊢
      simp only [List.length_append, List.length_cons, List.length_nil] at this
      exact ⟨this.1, by omega⟩
    · have e : wstep s b = (s.1, s.2 ++ [b]) := if_neg h7
      have := wrun_inv_go L (wstep s b) (by rw [e]; simp; omega)
      rw [e] at this ⊢
      simp only [List.length_append, List.length_cons, List.length_nil] at this
      exact ⟨this.1, by omega⟩
theorem wrun_inv (L : List Bool) : (wrun L).2.length ≤ 7 ∧ 8 * (wrun L).1.length + (wrun L).2.length = L.length := by
  have := wrun_inv_go L ([], []) (by simp)
  simpa [wrun] using this
theorem wrun_full (L : List Bool) (h : L.length % 8 = 0) : (wrun L).2 = [] := by
  have := wrun_inv L
  exact List.eq_nil_of_length_eq_zero (by omega)
theorem wrun_count (L : List Bool) : (wrun L).2.length = L.length % 8 := by
  have := wrun_inv L
  omega
theorem wrun_out_go : ∀ (B : List Bool) (o p : List UInt8) (r : List Bool), B.foldl wstep (o ++ p, r) = (o ++ (B.foldl wstep (p, r)).1, (B.foldl wstep (p, r)).2)
  | [], _, _, _ => rfl
  | b :: B, o, p, r => by
    simp only [List.foldl_cons]
    by_cases h7 : r.length = 7
    · have e1 : wstep (o ++ p, r) b = (o ++ (p ++ [UInt8.ofNat (valB (r ++ [b]))]), []) := by simp [wstep, h7]
      have e2 : wstep (p, r) b = (p ++ [UInt8.ofNat (valB (r ++ [b]))], []) := by simp [wstep, h7]
      rw [e1, e2, wrun_out_go B o]
    · have e1 : wstep (o ++ p, r) b = (o ++ p, r ++ [b]) := by simp [wstep, h7]
      have e2 : wstep (p, r) b = (p, r ++ [b]) := by simp [wstep, h7]
      rw [e1, e2, wrun_out_go B o]
/-- The full bytes of some bits. -/
def toBytes (L : List Bool) : List UInt8 := (wrun L).1
theorem toBytes_append (A B : List Bool) (h : A.length % 8 = 0) : toBytes (A ++ B) = toBytes A ++ toBytes B := by
  have hA := wrun_full A h
  have e : wrun A = (toBytes A ++ [], []) := by rw [List.append_nil, ← hA]; rfl
  show (wrun (A ++ B)).1 = _
  have : wrun (A ++ B) = B.foldl wstep (wrun A) := by simp [wrun, List.foldl_append]
  rw [this, e, wrun_out_go B (toBytes A) [] []]
  rfl
theorem toBytes_eight (l : List Bool) (h : l.length = 8) : toBytes l = [UInt8.ofNat (valB l)] := by
  match l, h with
  | [a, b, c, d, e, f, g, i], _ => simp [toBytes, wrun, wstep, valB]
theorem toBytes_take (L : List Bool) (j : Nat) (h : 8 * j + 8 ≤ L.length) : toBytes (L.take (8 * (j + 1))) = toBytes (L.take (8 * j)) ++ [UInt8.ofNat (valB ((L.drop (8 * j)).take 8))] := by
  have e : L.take (8 * (j + 1)) = L.take (8 * j) ++ (L.drop (8 * j)).take 8 := by
    rw [show 8 * (j + 1) = 8 * j + 8 by omega, List.take_add]
  have h8 : ((L.drop (8 * j)).take 8).length = 8 := by rw [List.length_take, List.length_drop]; omega
  rw [e, toBytes_append _ _ (by rw [List.length_take]; omega), toBytes_eight _ h8]
theorem toBytes_length (L : List Bool) : (toBytes L).length = L.length / 8 := by
  have := wrun_inv L
  show (wrun L).1.length = _
  omega

/-- How many noughts fill the byte. -/
def padN (n : Nat) : Nat := (8 - n % 8) % 8
def fill (L : List Bool) : List Bool := L ++ List.replicate (padN L.length) false
theorem fill_length (L : List Bool) : (fill L).length % 8 = 0 := by simp [fill, padN]; omega
theorem fill_full (L : List Bool) (h : L.length % 8 = 0) : fill L = L := by simp [fill, padN, h]
theorem fill_more (L : List Bool) (h : ¬ L.length % 8 = 0) : fill L = fill (L ++ [false]) := by
  simp only [fill, List.append_assoc, List.length_append, List.length_cons, List.length_nil]
  congr 1
  have : padN L.length = padN (L.length + (0 + 1)) + 1 := by unfold padN; omega
  rw [this, List.replicate_succ]; rfl
theorem fill_append (A B : List Bool) (h : A.length % 8 = 0) : fill (A ++ B) = A ++ fill B := by
  have : padN (A ++ B).length = padN B.length := by simp only [padN, List.length_append]; omega
  unfold fill
  rw [this, List.append_assoc]

theorem valB_go : ∀ (l : List Bool) (n : Nat), l.foldl (fun n b => 2 * n + b.toNat) n = n * 2 ^ l.length + valB l
  | [], n => by simp [valB]
  | b :: l, n => by
    simp only [List.foldl_cons, List.length_cons, valB]
    rw [valB_go l (2 * n + b.toNat), valB_go l (2 * 0 + b.toNat), Nat.pow_succ, Nat.add_mul, Nat.add_mul]
    have : 2 * n * 2 ^ l.length = n * (2 ^ l.length * 2) := by rw [Nat.mul_comm 2 n, Nat.mul_assoc, Nat.mul_comm 2]
    omega
theorem valB_cons (b : Bool) (l : List Bool) : valB (b :: l) = b.toNat * 2 ^ l.length + valB l := by
  show l.foldl _ (2 * 0 + b.toNat) = _
  rw [valB_go l]; simp
theorem bin_val (v : Nat) : ∀ n, valB (bin v n) = v % 2 ^ n
  | 0 => by simp [bin, valB, Nat.mod_one]
  | n + 1 => by
    rw [bin, valB_cons, bin_length, bin_val v n, Nat.mod_pow_succ]
    have h2 : v / 2 ^ n % 2 = 0 ∨ v / 2 ^ n % 2 = 1 := by omega
    rcases h2 with h2 | h2 <;> simp [h2, Nat.add_comm]
theorem bin_eight_value (v : Nat) (h : v < 256) : toBytes (bin v 8) = [UInt8.ofNat v] := by
  rw [toBytes_eight _ (bin_length v 8), bin_val, Nat.mod_eq_of_lt (by omega)]
end Go.Proofs.Ytnpnaglgllcpfab
