/-
  presskeep.changed: bytes with one of them turned.
-/
import Derived.Test.YtnpnaglgllcpfabOn2
import Derived.Test.YtnpnaglgllcpfabKp
import Derived.Test.YtnpnaglgllcpfabKq
import Derived.Laws.MakeOwn
import Derived.Laws.CopyOwn
namespace Go.Proofs.Ytnpnaglgllcpfab
set_option maxRecDepth 100000
open Go.RowKit

theorem cellsB_zero (n : Nat) : (List.replicate n (Value.int .u8 0)) = cellsB (List.replicate n 0) := by simp [cellsB]
theorem info8s : (Try.prog.info? 5).map (·.size) = some 1 := by kernel_rfl

theorem made_bytes (n : Nat) : madeCells (Value.int .u8 0).cells n = (List.replicate n (.int .u8 0)).toArray := by
  apply Array.ext
  · simp [madeCells]
  · intro i h1 h2
    simp [madeCells, Nat.mod_one, Value.cells]
theorem getD_set_self (l : List UInt8) (i : Nat) (c : UInt8) : cellsB (l.set i c) = (cellsB l).set i (.int .u8 c.toNat) := by simp [cellsB, List.map_set]

theorem xor_byte (a b : Nat) (ha : a < 256) (hb : b < 256) : bits .xor .u8 (a : Int) (b : Int) = ((a ^^^ b : Nat) : Int) := by
  have hx : a ^^^ b < 2 ^ 8 := Nat.xor_lt_two_pow (by omega) (by omega)
  have h1 : (BitVec.ofInt 8 (a : Int)).toNat = a := by
    rw [BitVec.ofInt_natCast, BitVec.toNat_ofNat]; exact Nat.mod_eq_of_lt (by omega)
  have h2 : (BitVec.ofInt 8 (b : Int)).toNat = b := by
    rw [BitVec.ofInt_natCast, BitVec.toNat_ofNat]; exact Nat.mod_eq_of_lt (by omega)
  show IntKind.u8.wrap ((BitVec.ofInt 8 (a : Int) ^^^ BitVec.ofInt 8 (b : Int)).toNat : Int) = _
  rw [BitVec.toNat_xor, h1, h2, IntKind.wrap_u8]
  omega

set_option maxHeartbeats 1000000 in
theorem changed_calls (sa : Option Addr) (l : List UInt8) (sc i : Nat) (b : Int) (w : World) (hl : l.length ≤ 5000) (hi : i < l.length) (hb1 : 1 ≤ b) (hb2 : b ≤ 255) (hby : BytesAt w sa l) :
    Calls Try.prog 29 #[.slice sa l.length sc, .int .i64 i, .int .i64 b] w fun e w' => Below w.heap.size w w' ∧ ∃ v c, e = .returned v ∧ OwnB w' w.heap.size v (l.set i c) ∧ c.toNat = (l.getD i 0).toNat ^^^ b.toNat := by
  obtain ⟨i0, hii, hz0, hz1, hz2⟩ := info_parts info8
  obtain ⟨Z, hZ⟩ : ∃ Z : List Value, Z = List.replicate l.length (.int .u8 0) := ⟨_, rfl⟩
  have HZ : Hid _ := hZ
  have hmk : ∀ wx : World, (Instr.makeSlice 22 (.int .i64 (l.length : Int)) (.int .i64 (l.length : Int))).run Try.prog wx = .ok (.slice (some ⟨wx.heap.size, 0, none⟩) l.length l.length) (wx.alloc (.cells Z.toArray 5)) := fun wx => by
    have h := run_make (P := Try.prog) (w := wx) 22 5 i0 (.int .u8 0) Try.underlying22 hii hz0 .i64 .i64 (l.length : Int) (l.length : Int) (by omega) (by omega) (by rw [hz2]; omega) (by omega)
    rw [hz1, Nat.mul_one, show ((l.length : Int)).toNat = l.length by omega] at h
    rw [hZ, ← made_bytes]
    exact h
  obtain ⟨sb, so, rfl, hcell⟩ : ∃ sb so, sa = some ⟨sb, so, none⟩ ∧ ∀ j, j < l.length → w.cell? ⟨sb, so + j, none⟩ = some (.int .u8 (l.getD j 0).toNat) := by
    rcases hby with h | h
    · rw [h] at hi; simp at hi
    · exact h
  have hsb : sb < w.heap.size := World.block_lt_of_cell? w _ (hcell i hi)
  have HC : Hid _ := hcell
  obtain ⟨w2, hcp, HG2, HBB⟩ : ∃ w2, (Builtin.copy_ #[22, 22] 3 #[.slice (some ⟨w.heap.size, 0, none⟩) l.length l.length, .slice (some ⟨sb, so, none⟩) l.length sc]).run Try.prog (w.alloc (.cells Z.toArray 5)) = .ok (goInt (l.length : Nat)) w2 ∧ Hid (w2.heap[w.heap.size]? = some (.cells (cellsB l).toArray 5 (0, 0))) ∧ Hid (Below w.heap.size w w2) := by
    have hg : (w.alloc (.cells Z.toArray 5)).heap[w.heap.size]? = some (.cells Z.toArray 5 (0, 0)) := heap_alloc_new w _
    have hlb : (cellsB l).length = l.length := by simp [cellsB]
    have hrun := run_copy_row (P := Try.prog) (w.alloc (.cells Z.toArray 5)) 22 22 3 5 w.heap.size 0 l.length l.length ⟨sb, so, none⟩ l.length sc Z.toArray 5 (cellsB l) Try.underlying22 info8s hg (by rw [hlb]; simp) (fun j v hj => by
      have hjl : j < l.length := by have := (List.getElem?_eq_some_iff.1 hj).1; rw [hlb] at this; exact this
      have hadd : (⟨sb, so, none⟩ : Addr).add j = ⟨sb, so + j, none⟩ := by unfold Addr.add; split <;> simp_all
      rw [hadd, ((Below.refl w.heap.size w).alloc (Nat.le_refl _) _).cell (p := ⟨sb, so + j, none⟩) hsb, hcell j hjl]
      simp [cellsB, hjl] at hj
      rw [← hj]
      simp [List.getD, hjl]) (by rw [hlb, hZ]; simp) (fun u hu => by simp [cellsB] at hu; obtain ⟨_, _, rfl⟩ := hu; rfl)
    rw [hlb] at hrun
    refine ⟨_, hrun, ?_, ?_⟩
    · show _ = _
      rw [setRow_heap _ _ _ _ _ _ hg]
      congr 2
      simp [hZ]
    · exact below_setRow ((Below.refl _ _).alloc (Nat.le_refl _) _) (Nat.le_refl _) _
  clear hcell hby hZ
  have hlt2 : w.heap.size < w2.heap.size := (Array.getElem?_eq_some_iff.1 HG2.out).1
  have hc2 : w2.cell? ⟨w.heap.size, i, none⟩ = some (.int .u8 (l.getD i 0).toNat) := by
    simp [World.cell?, HG2.out, cellsB, List.getD, hi]
  have hf2 : w2.frozen? ⟨w.heap.size, i, none⟩ = false := by simp [World.frozen?, HG2.out]
  have hib : (0 : Int) ≤ (i : Int) ∧ (i : Int) < (l.length : Int) := by omega
  go_enter Try.func29, Try.ntmps29
  go_wp2
  go_ret
  have hgl : l[i] = l.getD i 0 := by simp [List.getD, hi]
  have hx : bits .xor .u8 ((l[i].toNat : Nat) : Int) b = (((l.getD i 0).toNat ^^^ b.toNat : Nat) : Int) := by
    rw [hgl, show b = ((b.toNat : Nat) : Int) by omega]
    exact xor_byte _ _ (l.getD i 0).toNat_lt (by omega)
  have hlt : (l.getD i 0).toNat ^^^ b.toNat < 2 ^ 8 := Nat.xor_lt_two_pow (l.getD i 0).toNat_lt (by omega)
  have hcv : (UInt8.ofNat ((l.getD i 0).toNat ^^^ b.toNat)).toNat = (l.getD i 0).toNat ^^^ b.toNat := by
    generalize (l.getD i 0).toNat ^^^ b.toNat = X at *
    simp; omega
  rw [hx]
  refine ⟨HBB.out.setCell (Nat.le_refl _) _, _, UInt8.ofNat ((l.getD i 0).toNat ^^^ b.toNat), rfl, ?_, hcv⟩
  have hb := set_block (i := i) HG2.out (.int .u8 (((l.getD i 0).toNat ^^^ b.toNat : Nat) : Int))
  have hln : (l.set i (UInt8.ofNat ((l.getD i 0).toNat ^^^ b.toNat))).length = l.length := List.length_set
  unfold OwnB
  rw [hln, getD_set_self, hcv]
  refine ⟨by simp [cellsB], .inr ⟨w.heap.size, l.length, _, rfl, Nat.le_refl _, hb, Nat.le_refl _, by unfold maxLen; omega, by simp [cellsB], ?_⟩⟩
  simp [cellsB]
  exact List.take_of_length_le (by simp)
end Go.Proofs.Ytnpnaglgllcpfab
