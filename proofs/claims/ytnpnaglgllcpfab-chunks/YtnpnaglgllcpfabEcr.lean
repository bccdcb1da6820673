/-
  What the program's Encoder does: one byte more.
-/
import Derived.Test.YtnpnaglgllcpfabCmd
import Derived.Test.YtnpnaglgllcpfabEn0
import Derived.Test.YtnpnaglgllcpfabApb
import Derived.BigRegion
namespace Go.Proofs.Ytnpnaglgllcpfab
set_option maxRecDepth 100000
open Go.RowKit

/-- The cells of an Encoder. -/
def encCells (o b : Bool) (n : Int) (pc : List UInt8) : Array Value := (.bool o :: .bool b :: .int .i64 n :: cellsB pc).toArray
/-- The Encoder in block q: is it open, has it begun, how much was taken, its piece. -/
abbrev EncBox (w : World) (q : Nat) (o b : Bool) (n : Int) (pc : List UInt8) : Prop := w.heap[q]? = some (.cells (encCells o b n pc) 113 (0, 0))
theorem EncBox.cells {w : World} {q : Nat} {o b : Bool} {n : Int} {pc : List UInt8} (h : EncBox w q o b n pc) :
    (w.cell? ⟨q, 0, none⟩ = some (.bool o) ∧ w.cell? ⟨q, 1, none⟩ = some (.bool b) ∧ w.cell? ⟨q, 2, none⟩ = some (.int .i64 n)) ∧ (w.frozen? ⟨q, 0, none⟩ = false ∧ w.frozen? ⟨q, 1, none⟩ = false ∧ w.frozen? ⟨q, 2, none⟩ = false) := by
  simp [World.cell?, World.frozen?, h, encCells]
theorem EncBox.piece {w : World} {q : Nat} {o b : Bool} {n : Int} {pc : List UInt8} (h : EncBox w q o b n pc) (i : Nat) (hi : i < pc.length) :
    w.cell? ⟨q, 3 + i, none⟩ = some (.int .u8 (pc.getD i 0).toNat) ∧ w.frozen? ⟨q, 3 + i, none⟩ = false := by
  have e : (encCells o b n pc)[3 + i]? = some (.int .u8 (pc.getD i 0).toNat) := by
    simp only [encCells, List.getElem?_toArray]
    rw [show 3 + i = i + 1 + 1 + 1 by omega]
    simp [cellsB, List.getD, hi]
  simp [World.cell?, World.frozen?, h, e]
theorem EncBox.setN {w : World} {q : Nat} {o b : Bool} {n : Int} {pc : List UInt8} (h : EncBox w q o b n pc) (m : Int) : EncBox (w.setCell ⟨q, 2, none⟩ (.int .i64 m)) q o b m pc := by
  have := set_block (i := 2) h (.int .i64 m)
  unfold EncBox
  rw [this]
  simp [encCells]
theorem EncBox.setB {w : World} {q : Nat} {o b : Bool} {n : Int} {pc : List UInt8} (h : EncBox w q o b n pc) (c : Bool) : EncBox (w.setCell ⟨q, 1, none⟩ (.bool c)) q o c n pc := by
  have := set_block (i := 1) h (.bool c)
  unfold EncBox
  rw [this]
  simp [encCells]
theorem EncBox.setP {w : World} {q : Nat} {o b : Bool} {n : Int} {pc : List UInt8} (h : EncBox w q o b n pc) (i : Nat) (x : UInt8) : EncBox (w.setCell ⟨q, 3 + i, none⟩ (.int .u8 x.toNat)) q o b n (pc.set i x) := by
  have := set_block (i := 3 + i) h (.int .u8 x.toNat)
  unfold EncBox
  rw [this]
  congr 2
  unfold encCells
  rw [show 3 + i = i + 1 + 1 + 1 by omega]
  simp [cellsB, List.map_set]
theorem EncBox.bytes {w : World} {q : Nat} {o b : Bool} {n : Int} {pc : List UInt8} (h : EncBox w q o b n pc) (k : Nat) : BytesAt w (some ⟨q, 3, none⟩) (pc.take k) :=
  .inr ⟨q, 3, rfl, fun i hi => by
    rw [List.length_take] at hi
    rw [(h.piece i (by omega)).1]
    congr 3
    simp only [List.getD]
    rw [List.getElem?_take_of_lt (by omega)]⟩

/-- What is laid down behind one byte more, which makes the piece pc. -/
def taken (L : List Bool) (n : Nat) (pc : List UInt8) : List Bool := if (n + 1) % 64 = 0 then L ++ frameBits (parseOf pc) pc else L
set_option maxHeartbeats 1000000 in
theorem take_calls (q wq B : Nat) (v : Value) (L : List Bool) (n : Nat) (pc : List UInt8) (x : UInt8) (w : World) (h : EncBox w q true true n pc) (hp : pc.length = 64) (hn : n < 2048) (hw : WrAt w wq B v L) (hB : B ≤ w.heap.size) (hl : L.length ≤ 5000000) (hfull : L.length % 8 = 0) (hqw : q ≠ wq) (hqv : v.ownBlock ≠ some q) :
    Calls Try.prog 66 #[.pointer (some ⟨q, 0, none⟩), .pointer (some ⟨wq, 0, none⟩), .int .u8 x.toNat] w fun e w' => e = .returned (.tuple #[]) ∧
      EncBox w' q true true ((n + 1 : Nat) : Int) (pc.set (n % 64) x) ∧ ∃ v', WrAt w' wq B v' (taken L n (pc.set (n % 64) x)) ∧ (∀ k, v'.ownBlock = some k → v.ownBlock = some k ∨ w.heap.size ≤ k) ∧ KeptBut w w' (q :: wq :: v.ownBlock.toList) := by
  obtain ⟨⟨c0, c1, c2⟩, f0, f1, f2⟩ := h.cells
  have hr : n % 64 < 64 := by omega
  obtain ⟨c3, f3⟩ := h.piece (n % 64) (by omega)
  have HBX : Hid _ := h
  have HW : Hid _ := hw
  have hq := (Array.getElem?_eq_some_iff.1 h).1
  clear h hw
  go_enter Try.func66, Try.ntmps66
  have hRm : (n : Int).tmod 64 = (n : Int) % 64 := Int.tmod_eq_emod_of_nonneg (by omega)
  have hRN : ((n : Int) % 64).toNat = n % 64 := by omega
  have hb1 : (0 : Int) ≤ (n : Int) % 64 ∧ (n : Int) % 64 < 64 := by omega
  have hb2 : (0 : Int) ≤ (n : Int).tmod 64 ∧ (n : Int).tmod 64 < 64 := by rw [hRm]; exact hb1
  have HRM : Hid _ := hRm
  have HRN : Hid _ := hRN
  have hb3 : (0 : Int) ≤ (n : Int) % 64 := by omega
  have hb4 : (n : Int) % 64 < 64 := by omega
  clear hRm hRN
  go_wp2_with fail
  go_region
  have HBX1 : Hid (EncBox ((w.setCell ⟨q, 3 + n % 64, none⟩ (.int .u8 x.toNat)).drew) q true true n (pc.set (n % 64) x)) := EncBox.setP HBX.out _ _
  have HW1 : Hid (WrAt ((w.setCell ⟨q, 3 + n % 64, none⟩ (.int .u8 x.toNat)).drew) wq B v L) := ⟨(set_other _ (Ne.symm hqw)).trans HW.out.block, HW.out.own.set _ hqv⟩
  have HK1 : Hid (KeptBut w ((w.setCell ⟨q, 3 + n % 64, none⟩ (.int .u8 x.toNat)).drew) (q :: wq :: v.ownBlock.toList)) := ((KeptBut.refl _ _).set (by simp) _).trans (KeptBut.below (below_drewN (Below.refl _ _) 1))
  have hs1 : ((w.setCell ⟨q, 3 + n % 64, none⟩ (.int .u8 x.toNat)).drew).heap.size = w.heap.size := set_size _ _ _
  have hp1 : (pc.set (n % 64) x).length = 64 := by rw [List.length_set]; exact hp
  generalize hpc : pc.set (n % 64) x = pc1 at *
  have HPC : Hid _ := hpc
  clear hpc HBX HW c0 c1 c2 c3 f0 f1 f2 f3 hb1 hb2 hb3 hb4
  generalize (w.setCell ⟨q, 3 + n % 64, none⟩ (.int .u8 x.toNat)).drew = w1 at *
  obtain ⟨⟨c0, c1, c2⟩, f0, f1, f2⟩ := HBX1.out.cells
  have HBX2 : Hid (EncBox (w1.setCell ⟨q, 2, none⟩ (.int .i64 ((n : Int) + 1))) q true true ((n : Int) + 1) pc1) := HBX1.out.setN _
  have HW2 : Hid (WrAt (w1.setCell ⟨q, 2, none⟩ (.int .i64 ((n : Int) + 1))) wq B v L) := ⟨(set_other _ (Ne.symm hqw)).trans HW1.out.block, HW1.out.own.set _ hqv⟩
  have HK2 : Hid (KeptBut w (w1.setCell ⟨q, 2, none⟩ (.int .i64 ((n : Int) + 1))) (q :: wq :: v.ownBlock.toList)) := HK1.out.set (by simp) _
  have hs2 : (w1.setCell ⟨q, 2, none⟩ (.int .i64 ((n : Int) + 1))).heap.size = w1.heap.size := set_size _ _ _
  by_cases h0 : (n + 1) % 64 = 0
  · have h0b : (((n : Int) + 1) % 64 == 0) = true := by simp; omega
    have HT : Hid (taken L n pc1 = L ++ frameBits (parseOf pc1) pc1) := if_pos h0
    have HWP : Hid (Calls Try.prog 33 #[.pointer (some ⟨wq, 0, none⟩), .slice (some ⟨q, 3, none⟩) 64 64] (w1.setCell ⟨q, 2, none⟩ (.int .i64 ((n : Int) + 1))) fun e w' => e = .returned (.tuple #[]) ∧ WrDone (w1.setCell ⟨q, 2, none⟩ (.int .i64 ((n : Int) + 1))) w' wq B v (L ++ frameBits (parseOf pc1) pc1)) := by
      have hbb := HBX2.out.bytes 64
      rw [List.take_of_length_le (by omega)] at hbb
      have := writePiece_calls wq B v L (some ⟨q, 3, none⟩) pc1 64 (w1.setCell ⟨q, 2, none⟩ (.int .i64 ((n : Int) + 1))) HW2.out (by omega) (by omega) hfull (by omega) hbb (fun b off e => by
        simp at e
        obtain ⟨rfl, _⟩ := e
        exact ⟨by omega, hqw, hqv⟩)
      rw [hp1] at this
      exact this
    clear h0 hp hp1
    go_wp2_with fail
    refine Calls.mono HWP.out ?_
    rintro r w3 ⟨rfl, v3, hw3, hk3⟩
    have HW3 : Hid _ := hw3
    have HBX3 : Hid (EncBox w3 q true true ((n : Int) + 1) pc1) := (hk3.heap q (by omega) hqw hqv).trans HBX2.out
    have HM3 : Hid (∀ k, v3.ownBlock = some k → v.ownBlock = some k ∨ w.heap.size ≤ k) := fun k hk => by
      rcases hk3.moved k hk with h | h
      · exact .inl h
      · right; omega
    have HK3 : Hid (KeptBut w w3 (q :: wq :: v.ownBlock.toList)) := HK2.out.trans ⟨hk3.os, hk3.tape, hk3.output, hk3.size, fun k h1 h2 => hk3.heap k h1 (fun e => h2 (by simp [e])) (fun e => h2 (by simp [e]))⟩
    clear hw3 hk3 HWP
    go_wp2
    go_end0
    exact ⟨rfl, by rw [HPC.out]; exact HBX3.out, v3, by rw [HPC.out, HT.out]; exact HW3.out, HM3.out, HK3.out⟩
  · have h0b : (((n : Int) + 1) % 64 == 0) = false := by simp; omega
    have HT : Hid (taken L n pc1 = L) := if_neg h0
    clear h0
    go_wp2
    go_end0
    exact ⟨rfl, by rw [HPC.out]; exact HBX2.out, v, by rw [HPC.out, HT.out]; exact HW2.out, fun k hk => .inl hk, HK2.out⟩
end Go.Proofs.Ytnpnaglgllcpfab
