/-
  What the program's Reader does to memory: a bit, some digits, a byte.
-/
import Derived.Test.YtnpnaglgllcpfabRdA
import Derived.Laws.ShiftsVar
namespace Go.Proofs.Ytnpnaglgllcpfab
set_option maxRecDepth 100000
open Go.RowKit

/-- The Reader in block q: its bytes l, so many of their bits read. -/
structure RdrAt (w : World) (q : Nat) (a : Option Addr) (l : List UInt8) (cap n : Nat) : Prop where
  block : w.heap[q]? = some (.cells #[.slice a l.length cap, .int .i64 n] 125 (0, 0))
  bytes : BytesAt w a l
  apart : 0 < l.length → ∀ b off, a = some ⟨b, off, none⟩ → b ≠ q

theorem cell_heap {w w' : World} {b o : Nat} (h : w'.heap[b]? = w.heap[b]?) : w'.cell? ⟨b, o, none⟩ = w.cell? ⟨b, o, none⟩ := by
  simp [World.cell?, h]
theorem bytesAt_below {w w' : World} {a : Option Addr} {l : List UInt8} (h : BytesAt w a l) (hb : Below w.heap.size w w') : BytesAt w' a l := by
  rcases h with h | ⟨b, off, h1, h⟩
  · exact .inl h
  · rcases Nat.eq_zero_or_pos l.length with h0 | h0
    · exact .inl (List.eq_nil_of_length_eq_zero h0)
    · have hlt : b < w.heap.size := World.block_lt_of_cell? w _ (h 0 h0)
      exact .inr ⟨b, off, h1, fun i hi => by rw [hb.cell (p := ⟨b, _, none⟩) hlt]; exact h i hi⟩
theorem RdrAt.kept {w w' : World} {q : Nat} {a : Option Addr} {l : List UInt8} {cap n m : Nat} (h : RdrAt w q a l cap n) (hk : OneKept w w' q) (hb : w'.heap[q]? = some (.cells #[.slice a l.length cap, .int .i64 m] 125 (0, 0))) : RdrAt w' q a l cap m := by
  refine ⟨hb, ?_, h.apart⟩
  rcases h.bytes with h1 | ⟨b, off, h1, h2⟩
  · exact .inl h1
  · refine .inr ⟨b, off, h1, fun i hi => ?_⟩
    have hc := h2 i hi
    have hlt : b < w.heap.size := World.block_lt_of_cell? w _ hc
    rw [cell_heap (hk.heap b hlt (h.apart (by omega) b off h1))]
    exact hc
theorem RdrAt.lt {w : World} {q : Nat} {a : Option Addr} {l : List UInt8} {cap n : Nat} (h : RdrAt w q a l cap n) : q < w.heap.size := (Array.getElem?_eq_some_iff.1 h.block).1
theorem RdrAt.below {w w' : World} {q : Nat} {a : Option Addr} {l : List UInt8} {cap n : Nat} (h : RdrAt w q a l cap n) (hb : Below w.heap.size w w') : RdrAt w' q a l cap n :=
  ⟨by rw [hb.block q h.lt]; exact h.block, bytesAt_below h.bytes hb, h.apart⟩
theorem RdrAt.cell {w : World} {q : Nat} {a : Option Addr} {l : List UInt8} {cap n : Nat} (h : RdrAt w q a l cap n) :
    w.cell? ⟨q, 0, none⟩ = some (.slice a l.length cap) ∧ w.cell? ⟨q, 1, none⟩ = some (.int .i64 n) ∧ w.frozen? ⟨q, 1, none⟩ = false := by
  have := h.block
  simp [World.cell?, World.frozen?, this]

/-- A bit of some bytes. -/
theorem bin_get (v : Nat) : ∀ (k i : Nat) (_ : i < k) (h' : i < (bin v k).length), ((bin v k)[i]'h').toNat = v / 2 ^ (k - 1 - i) % 2
  | k + 1, 0, _, _ => by
    simp only [bin, List.getElem_cons_zero]
    have h2 : v / 2 ^ k % 2 = 0 ∨ v / 2 ^ k % 2 = 1 := by omega
    rcases h2 with h2 | h2 <;> simp [h2]
  | k + 1, i + 1, h, h' => by
    simp only [bin, List.getElem_cons_succ]
    have := bin_get v k i (by omega) (by rw [bin_length]; omega)
    rw [this, show k + 1 - 1 - (i + 1) = k - 1 - i by omega]
theorem bitsIn_get : ∀ (l : List UInt8) (n : Nat) (h : n < (bitsIn l).length), ((bitsIn l)[n]'h).toNat = (l.getD (n / 8) 0).toNat / 2 ^ (7 - n % 8) % 2
  | [], n, h => by simp [bitsIn] at h
  | b :: l, n, h => by
    have e : bitsIn (b :: l) = bin b.toNat 8 ++ bitsIn l := by simp [bitsIn]
    have hb : (bin b.toNat 8).length = 8 := bin_length _ _
    rcases Nat.lt_or_ge n 8 with h8 | h8
    · have e1 : (bitsIn (b :: l))[n]'h = (bin b.toNat 8)[n]'(by omega) := by
        simp only [e]
        exact List.getElem_append_left (by omega)
      rw [e1, bin_get b.toNat 8 n h8, show n / 8 = 0 by omega, show n % 8 = n by omega]
      rfl
    · have hl := bitsIn_length (b :: l)
      have hl' := bitsIn_length l
      simp only [List.length_cons] at hl
      have e1 : (bitsIn (b :: l))[n]'h = (bitsIn l)[n - 8]'(by omega) := by
        simp only [e]
        rw [List.getElem_append_right (by omega)]
        simp only [hb]
      rw [e1, bitsIn_get l (n - 8), show (n - 8) / 8 = n / 8 - 1 by omega, show (n - 8) % 8 = n % 8 by omega]
      obtain ⟨k, hk⟩ : ∃ k, n / 8 = k + 1 := ⟨n / 8 - 1, by omega⟩
      rw [hk]
      rfl

theorem and_one (x : Nat) : bits .and .i64 (x : Int) 1 = ((x % 2 : Nat) : Int) := by
  have e : (BitVec.ofInt 64 (x : Int) &&& BitVec.ofInt 64 1).toNat = x % 2 := by
    rw [BitVec.toNat_and, BitVec.toNat_ofInt, show (BitVec.ofInt 64 1).toNat = 2 ^ 1 - 1 by decide, Nat.and_two_pow_sub_one_eq_mod]
    omega
  show IntKind.i64.wrap ((BitVec.ofInt 64 (x : Int) &&& BitVec.ofInt 64 1).toNat : Nat) = _
  rw [e, IntKind.wrap_i64]
  omega

theorem bitR_short (q : Nat) (a : Option Addr) (l : List UInt8) (cap n : Nat) (w : World) (h : RdrAt w q a l cap n) (hl : l.length ≤ 4096) (hn : n ≤ 100000) (hs : 8 * l.length ≤ n) :
    Calls Try.prog 88 #[.pointer (some ⟨q, 0, none⟩)] w fun r w' => r = .returned (.tuple #[.int .i64 0, .int .i64 4]) ∧ w' = w := by
  obtain ⟨c0, c1, f1⟩ := h.cell
  have hd : (l.length : Int) ≤ (n : Int) / 8 := by omega
  clear h
  go_enter Try.func88, Try.ntmps88
  go_wp2
  go_ret2
  exact ⟨rfl, rfl⟩

set_option maxHeartbeats 1000000 in
theorem bitR_ok (q : Nat) (a : Option Addr) (l : List UInt8) (cap n : Nat) (w : World) (h : RdrAt w q a l cap n) (hl : l.length ≤ 4096) (hs : n < (bitsIn l).length) :
    Calls Try.prog 88 #[.pointer (some ⟨q, 0, none⟩)] w fun r w' => r = .returned (.tuple #[.int .i64 ((bitsIn l)[n].toNat : Int), .int .i64 0]) ∧ RdrAt w' q a l cap (n + 1) ∧ OneKept w w' q := by
  obtain ⟨c0, c1, f1⟩ := h.cell
  have hlen := bitsIn_length l
  have HV : Hid ((bitsIn l)[n].toNat = (l.getD (n / 8) 0).toNat / 2 ^ (7 - n % 8) % 2) := bitsIn_get l n hs
  have hn8 : n / 8 < l.length := by omega
  have hnb : n < 40000 := by omega
  have hix : 0 ≤ (n : Int) / 8 ∧ (n : Int) / 8 < (l.length : Int) := by omega
  have hlt : (n : Int) / 8 < (l.length : Int) := hix.2
  obtain ⟨b, off, ha, hcell⟩ : ∃ b off, a = some ⟨b, off, none⟩ ∧ ∀ i, i < l.length → w.cell? ⟨b, off + i, none⟩ = some (.int .u8 (l.getD i 0).toNat) := by
    rcases h.bytes with h | h
    · rw [h] at hn8; simp at hn8
    · exact h
  have hbq : b ≠ q := h.apart (by omega) b off ha
  subst ha
  have hc := hcell (n / 8) hn8
  have HR : Hid (RdrAt w q _ l cap n) := h
  have hcn : (l.getD (n / 8) 0).toNat < 256 := (l.getD (n / 8) 0).toNat_lt
  generalize l.getD (n / 8) 0 = c at *
  generalize (bitsIn l)[n].toNat = y at *
  clear hcell h hlen hs
  go_enter Try.func88, Try.ntmps88
  go_wp2
  go_ret2
  refine ⟨ret_two ?_ rfl, ?_, (OneKept.refl _ _).set _⟩
  · have e := and_one (c.toNat / 2 ^ (7 - n % 8))
    rw [HV.out, ← e]
    simp
  · refine HR.out.kept ((OneKept.refl _ _).set _) ?_
    rw [set_block HR.out.block]
    simp
end Go.Proofs.Ytnpnaglgllcpfab
