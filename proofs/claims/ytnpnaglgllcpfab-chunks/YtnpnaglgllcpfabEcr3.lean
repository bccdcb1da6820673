/-
  What the program's Encoder answers: Write.
-/
import Derived.Test.YtnpnaglgllcpfabEcr2
namespace Go.Proofs.Ytnpnaglgllcpfab
set_option maxRecDepth 100000
open Go.RowKit

/-- How Write of an open Encoder ends. -/
def WriteAns (w w' : World) (q : Nat) (d p : List UInt8) (b : Bool) (r : Ending) : Prop :=
  OneKept w w' q ∧ EncAt w' q (d ++ p) true ∧ ∃ L vy, r = .returned (.tuple #[vy, .int .i64 0]) ∧ sofar b d ++ L = magicBits ++ fullBits parseOf (d ++ p) ∧ OwnB w' w.heap.size vy (toBytes L)

set_option maxHeartbeats 2000000 in
theorem ewrite_calls (q : Nat) (d p : List UInt8) (b : Bool) (pa : Option Addr) (pc : Nat) (w : World) (h : EncAt w q d b) (hp : BytesAt w pa p) (hpq : ∀ k off, pa = some ⟨k, off, none⟩ → k ≠ q) (hl : d.length + p.length ≤ 2048) :
    Calls Try.prog 51 #[.pointer (some ⟨q, 0, none⟩), .slice pa p.length pc] w fun r w' => WriteAns w w' q d p b r := by
  have hq := h.lt
  have HE : Hid (EncAt w q d b) := h
  have HP : Hid (BytesAt w pa p) := hp
  have HPQ : Hid (∀ k off, pa = some ⟨k, off, none⟩ → k ≠ q) := hpq
  obtain ⟨⟨c0, c1, c2⟩, _⟩ : (w.cell? ⟨q, 0, none⟩ = some (.bool true) ∧ w.cell? ⟨q, 1, none⟩ = some (.bool b) ∧ w.cell? ⟨q, 2, none⟩ = some (.int .i64 d.length)) ∧ _ := by
    obtain ⟨pc, h1, _⟩ := h
    exact h1.cells
  have hlp : ¬ (2048 : Int) - (d.length : Int) < (p.length : Int) := by omega
  have hd : d.length ≤ 2048 := by omega
  clear h hp hpq
  go_enter Try.func51, Try.ntmps51
  go_wp2_with fail
  refine (begin_calls q w.heap.size d b _ (EncAt.kept HE.out (Below.heap_alloc _ _ _ hq)) (wr_new w) hq).mono ?_
  rintro r w1 ⟨rfl, he1, v1, L1, hw1, hL1, hk1⟩
  have hs1 := hk1.size
  simp at hs1
  have HE1 : Hid (EncAt w1 q d true) := he1
  have HW1 : Hid (WrAt w1 w.heap.size w.heap.size v1 L1) := hw1
  have HL1 : Hid _ := hL1
  have HK1 : Hid (OneKept w w1 q) := ⟨hk1.os, hk1.tape, hk1.output, by omega, fun k h1 h2 => (hk1.heap k (by simp; omega) (by simp; omega)).trans (Below.heap_alloc _ _ _ h1)⟩
  clear he1 hw1 hL1 hk1
  go_wp2_with fail
  go_loopw [33] (fun i wr => ∃ (k : Nat) (v : Value) (L : List Bool), k ≤ p.length ∧ i = .int .i64 k ∧ Hid (EncAt wr q (d ++ p.take k) true) ∧ Hid (WrAt wr w.heap.size w.heap.size v L) ∧ Hid (sofar b d ++ L = magicBits ++ fullBits parseOf (d ++ p.take k)) ∧ Hid (OneKept w wr q)) (fun i _ => p.length - (intOf i).toNat)
  case atStart => exact ⟨0, v1, L1, by omega, rfl, by rw [List.take_zero, List.append_nil]; exact HE1, HW1, by rw [List.take_zero, List.append_nil]; exact HL1, HK1⟩
  case round =>
    clear HE1 HW1 HL1 HK1
    obtain ⟨k, v, L, hk, rfl, HEk, HWk, HLk, HKk⟩ := hrel
    have hsk := HKk.out.size
    have hwl := HWk.out.lt
    by_cases hlt : k < p.length
    · obtain ⟨pb, off, rfl, hpl, hpbq, hcell⟩ : ∃ pb off, pa = some ⟨pb, off, none⟩ ∧ pb < w.heap.size ∧ pb ≠ q ∧ wr.cell? ⟨pb, off + k, none⟩ = some (.int .u8 (p.getD k 0).toNat) := by
        rcases HP.out with h | ⟨pb, off, h1, h2⟩
        · rw [h] at hlt; simp at hlt
        · have hpl : pb < w.heap.size := World.block_lt_of_cell? w _ (h2 k hlt)
          have hpq := HPQ.out pb off h1
          exact ⟨pb, off, h1, hpl, hpq, by rw [World.cell?_of_block (HKk.out.heap pb hpl hpq)]; exact h2 k hlt⟩
      obtain ⟨pcs, e1, e2, e3, e4, _⟩ := HEk.out
      have HTK : Hid (p.take (k + 1) = p.take k ++ [p.getD k 0]) := by show _ = _; rw [List.take_succ_eq_append_getElem hlt]; simp [List.getD, hlt]
      have hdl : (d ++ p.take k).length = d.length + k := by rw [List.length_append, List.length_take]; omega
      have hvq : v.ownBlock ≠ some q := fun e => by have := (World.ownsRow.lt HWk.out.own q e).1; omega
      have hfb := fullBits_le (d ++ p.take k)
      have hLl : (sofar b d).length + L.length = 24 + (fullBits parseOf (d ++ p.take k)).length := by
        have := congrArg List.length HLk.out
        rw [List.length_append, List.length_append, magic_length] at this
        exact this
      have hLf : L.length % 8 = 0 := by
        have h1 := sofar_full b d
        have h2 := fullBits_fits parseOf (d ++ p.take k)
        omega
      have HTC : Hid _ := take_calls q w.heap.size w.heap.size v L (d ++ p.take k).length pcs (p.getD k 0) wr e1 e2 (by omega) HWk.out (by omega) (by omega) hLf (by omega) hvq
      have HNX : Hid _ := taken_is (x := p.getD k 0) e2 e3 HLk.out
      have HPM : Hid _ := (piece_more (x := p.getD k 0) e2 e3).1
      have HPL : Hid _ := e2
      clear hfb hLl hLf e1 e2 e3 e4 HLk
      have hb0 : (0 : Int) ≤ (k : Int) ∧ (k : Int) < (p.length : Int) := by omega
      have HD1 : Hid ((d ++ p.take k ++ [p.getD k 0]).length = (d ++ p.take k).length + 1) := by show _ = _; rw [List.length_append]; rfl
      have HD2 : Hid (d ++ p.take (k + 1) = d ++ p.take k ++ [p.getD k 0]) := by show _ = _; rw [HTK.out, List.append_assoc]
      have HDL : Hid ((d ++ p.take k).length = d.length + k) := hdl
      clear hdl
      generalize d ++ p.take k = dk at *
      generalize p.getD k 0 = x at *
      go_wp2_with fail
      refine Calls.mono HTC.out ?_
      rintro r w2 ⟨rfl, hb2, v2, hw2, hm2, hk2⟩
      have hs2 := hk2.size
      have HE2 : Hid (EncAt w2 q (dk ++ [x]) true) := ⟨_, by rw [HD1.out]; exact hb2, by rw [List.length_set]; exact HPL.out, HPM.out, by rw [HD1.out, HDL.out]; omega, fun h => by cases h⟩
      have HW2 : Hid _ := hw2
      have HK2 : Hid (OneKept w w2 q) := ⟨hk2.os.trans HKk.out.os, hk2.tape.trans HKk.out.tape, hk2.output.trans HKk.out.output, by omega, fun i h1 h2 => (hk2.heap i (by omega) (fun hm => by
        simp only [List.mem_cons, Option.mem_toList] at hm
        rcases hm with rfl | rfl | hm
        · exact h2 rfl
        · omega
        · have := (World.ownsRow.lt HWk.out.own i hm).1
          omega)).trans (HKk.out.heap i h1 h2)⟩
      clear hb2 hw2 hm2 hk2 HTC
      go_wp2
      go_roundw
      case rel => exact ⟨k + 1, v2, _, by omega, by go_num, by rw [HD2.out]; exact HE2, HW2, by rw [HD2.out]; exact HNX, HK2⟩
      case measure => simp [intOf]; omega
    · have hke : k = p.length := by omega
      have HF : Hid (d ++ p.take k = d ++ p) := by show _ = _; rw [hke, List.take_length]
      have hfull : L.length % 8 = 0 := by
        have h1 := sofar_full b d
        have h2 := fullBits_fits parseOf (d ++ p.take k)
        have := congrArg List.length HLk.out
        rw [List.length_append, List.length_append, magic_length] at this
        omega
      go_wp2_with fail
      refine (bytes_calls _ _ _ _ _ HWk.out).mono ?_
      rintro r w2 ⟨rfl, rfl⟩
      obtain ⟨vo, vc, rfl⟩ := OwnB.form HWk.out.own
      go_wp2
      go_ret2
      exact ⟨HKk.out, by rw [← HF.out]; exact HEk.out, L, _, rfl, by rw [← HF.out]; exact HLk.out, HWk.out.own⟩
end Go.Proofs.Ytnpnaglgllcpfab
