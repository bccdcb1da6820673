/-
  What the program's Encoder answers: Write of one that is closed, or of too much; Close.
-/
import Derived.Test.YtnpnaglgllcpfabEcr3
import Derived.Laws.Tables
namespace Go.Proofs.Ytnpnaglgllcpfab
set_option maxRecDepth 100000
open Go.RowKit

theorem ewrite_nil (pa : Option Addr) (pn pc : Nat) (w : World) :
    Calls Try.prog 51 #[.pointer none, .slice pa pn pc] w fun r w' => r = .returned (.tuple #[.slice none 0 0, .int .i64 10]) ∧ w' = w := by
  go_enter Try.func51, Try.ntmps51
  go_wp2
  go_ret2
  exact ⟨rfl, rfl⟩
theorem ewrite_shut (q : Nat) (pa : Option Addr) (pn pc : Nat) (w : World) (h : EncShut w q) :
    Calls Try.prog 51 #[.pointer (some ⟨q, 0, none⟩), .slice pa pn pc] w fun r w' => r = .returned (.tuple #[.slice none 0 0, .int .i64 10]) ∧ w' = w := by
  obtain ⟨b, n, pcs, h⟩ := h
  obtain ⟨⟨c0, c1, c2⟩, _⟩ := h.cells
  clear h
  go_enter Try.func51, Try.ntmps51
  go_wp2
  go_ret2
  exact ⟨rfl, rfl⟩
theorem ewrite_long (q : Nat) (d : List UInt8) (b : Bool) (pa : Option Addr) (pn pc : Nat) (w : World) (h : EncAt w q d b) (hl : 2048 < d.length + pn) :
    Calls Try.prog 51 #[.pointer (some ⟨q, 0, none⟩), .slice pa pn pc] w fun r w' => r = .returned (.tuple #[.slice none 0 0, .int .i64 1]) ∧ w' = w := by
  obtain ⟨pcs, h, _, _, hd, _⟩ := h
  obtain ⟨⟨c0, c1, c2⟩, _⟩ := h.cells
  have hlp : (2048 : Int) - (d.length : Int) < (pn : Int) := by omega
  clear h
  go_enter Try.func51, Try.ntmps51
  go_wp2
  go_ret2
  exact ⟨rfl, rfl⟩
theorem eclose_nil (w : World) :
    Calls Try.prog 52 #[.pointer none] w fun r w' => r = .returned (.tuple #[.slice none 0 0, .int .i64 10]) ∧ w' = w := by
  go_enter Try.func52, Try.ntmps52
  go_wp2
  go_ret2
  exact ⟨rfl, rfl⟩
theorem eclose_shut (q : Nat) (w : World) (h : EncShut w q) :
    Calls Try.prog 52 #[.pointer (some ⟨q, 0, none⟩)] w fun r w' => r = .returned (.tuple #[.slice none 0 0, .int .i64 10]) ∧ w' = w := by
  obtain ⟨b, n, pcs, h⟩ := h
  obtain ⟨⟨c0, c1, c2⟩, _⟩ := h.cells
  clear h
  go_enter Try.func52, Try.ntmps52
  go_wp2
  go_ret2
  exact ⟨rfl, rfl⟩
theorem setRow_block {w : World} {g : Nat} {cs cur : Array Value} {t : TypeId} {m : Nat × Nat} (h : w.heap[g]? = some (.cells cur t m)) : (w.setRow g cs).heap[g]? = some (.cells cs t m) := by
  have hlt := (Array.getElem?_eq_some_iff.1 h).1
  have h' : w.heap[g] = .cells cur t m := (Array.getElem?_eq_some_iff.1 h).2
  show (w.heap.modify g _)[g]? = _
  rw [Array.getElem?_eq_getElem (by simpa using hlt), Array.getElem_modify_self, h']
theorem setRow_other {w : World} {g k : Nat} {cs : Array Value} (h : k ≠ g) : (w.setRow g cs).heap[k]? = w.heap[k]? := by
  show (w.heap.modify g _)[k]? = _
  rw [Array.getElem?_modify]
  simp [Ne.symm h]
theorem setRow_size (w : World) (g : Nat) (cs : Array Value) : (w.setRow g cs).heap.size = w.heap.size := by
  show (w.heap.modify g _).size = _
  simp
theorem zeroEnc : Try.zeroCells113 = encCells false false 0 (List.replicate 64 0) := by kernel_rfl
/-- An Encoder is overwritten by one of noughts. -/
theorem store_enc {w : World} {q : Nat} {o b : Bool} {n : Int} {pc : List UInt8} (h : EncBox w q o b n pc) (hp : pc.length = 64) : (storeCells ⟨q, 0, none⟩ Try.zeroCells113.toList).run Try.prog w = .ok () (w.setRow q Try.zeroCells113) := by
  have := run_storeCells_from (P := Try.prog) q 113 Try.zeroCells113.toList 0 (encCells o b n pc) w h (by rw [zeroEnc]; simp [encCells, cellsB, hp]) (by
    intro v hv
    rw [zeroEnc] at hv
    simp [encCells, cellsB] at hv
    rcases hv with rfl | rfl | rfl <;> rfl)
  simpa using this
/-- How Close of an open Encoder ends. -/
def CloseAns (w w' : World) (q : Nat) (d : List UInt8) (b : Bool) (r : Ending) : Prop :=
  OneKept w w' q ∧ EncShut w' q ∧ ∃ L vy, r = .returned (.tuple #[vy, .int .i64 0]) ∧ sofar b d ++ L = streamBits (toksOf parseOf d) ∧ OwnB w' w.heap.size vy (toBytes L)

theorem close_fin {w w1 w2 : World} {q : Nat} {d : List UInt8} {b : Bool} {v1 v2 : Value} {L : List Bool} {o c : Bool} {n : Int} {pc : List UInt8} (hq : q < w.heap.size) (hs1 : w.heap.size ≤ w1.heap.size) (hk1 : OneKept w w1 q) (hw1 : WrAt w1 w.heap.size w.heap.size v1 L) (hk2 : WrKept w1 w2 w.heap.size v1 v2) (hw2 : WrAt w2 w.heap.size w.heap.size v2 (L ++ endBits)) (hb2 : EncBox w2 q o c n pc)
    (hL : sofar b d ++ (L ++ endBits) = streamBits (toksOf parseOf d)) : CloseAns w (w2.setRow q Try.zeroCells113) q d b (.returned (.tuple #[v2, .int .i64 0])) ∧ WrAt (w2.setRow q Try.zeroCells113) w.heap.size w.heap.size v2 (L ++ endBits) := by
  have hs2 := hk2.size
  have hv2 : ∀ k, v2.ownBlock = some k → k ≠ q := fun k hk e => by have := (World.ownsRow.lt hw2.own k hk).1; omega
  have hown : OwnB (w2.setRow q Try.zeroCells113) w.heap.size v2 (wrun (L ++ endBits)).1 := by
    refine ⟨hw2.own.1, ?_⟩
    rcases hw2.own.2 with h | ⟨g, cap, cur, g1, g2, g3, g4⟩
    · exact .inl h
    · exact .inr ⟨g, cap, cur, g1, g2, by rw [setRow_other (hv2 g (by rw [g1]; rfl))]; exact g3, g4⟩
  refine ⟨⟨⟨hk2.os.trans hk1.os, hk2.tape.trans hk1.tape, hk2.output.trans hk1.output, by rw [setRow_size]; omega, fun k h1 h2 => ?_⟩, ⟨false, 0, List.replicate 64 0, by show _ = _; rw [setRow_block hb2, zeroEnc]⟩, L ++ endBits, v2, rfl, hL, hown⟩, by rw [setRow_other (by omega)]; exact hw2.block, hown⟩
  rw [setRow_other h2, hk2.heap k (by omega) (by omega) (fun e => by have := (World.ownsRow.lt hw1.own k e).1; omega)]
  exact hk1.heap k h1 h2

set_option maxHeartbeats 4000000 in
theorem eclose_calls (q : Nat) (d : List UInt8) (b : Bool) (w : World) (h : EncAt w q d b) :
    Calls Try.prog 52 #[.pointer (some ⟨q, 0, none⟩)] w fun r w' => CloseAns w w' q d b r := by
  have hq := h.lt
  have HE : Hid (EncAt w q d b) := h
  obtain ⟨⟨c0, c1, c2⟩, _⟩ : (w.cell? ⟨q, 0, none⟩ = some (.bool true) ∧ w.cell? ⟨q, 1, none⟩ = some (.bool b) ∧ w.cell? ⟨q, 2, none⟩ = some (.int .i64 d.length)) ∧ _ := by
    obtain ⟨pc, h1, _⟩ := h
    exact h1.cells
  clear h
  go_enter Try.func52, Try.ntmps52
  go_wp2_with fail
  refine (begin_calls q w.heap.size d b _ (EncAt.kept HE.out (Below.heap_alloc _ _ _ hq)) (wr_new w) hq).mono ?_
  rintro r w1 ⟨rfl, he1, v1, L1, hw1, hL1, hk1⟩
  have hs1 := hk1.size
  simp at hs1
  have HW1 : Hid (WrAt w1 w.heap.size w.heap.size v1 L1) := hw1
  have HL1 : Hid _ := hL1
  have HK1 : Hid (OneKept w w1 q) := ⟨hk1.os, hk1.tape, hk1.output, by omega, fun k h1 h2 => (hk1.heap k (by simp; omega) (by simp; omega)).trans (Below.heap_alloc _ _ _ h1)⟩
  obtain ⟨pcs, e1, e2, e3, e4, _⟩ := he1
  have HB1 : Hid _ := e1
  obtain ⟨⟨c0, c1, c2⟩, f0, f1, f2⟩ := e1.cells
  have hvq : v1.ownBlock ≠ some q := fun e => by have := (World.ownsRow.lt hw1.own q e).1; omega
  have hfb := fullBits_le d
  have hLl : (sofar b d).length + L1.length = 24 + (fullBits parseOf d).length := by
    have := congrArg List.length hL1
    rw [List.length_append, List.length_append, magic_length] at this
    exact this
  have hLf : L1.length % 8 = 0 := by
    have h1 := sofar_full b d
    have h2 := fullBits_fits parseOf d
    omega
  have hL5 : L1.length ≤ 5000000 := by omega
  clear hw1 hL1 hk1 hfb hLl
  by_cases h0 : d.length % 64 = 0
  · have h0b : ¬ (0 : Int) < (d.length : Int) % 64 := by omega
    go_wp2_with fail
    refine (writeEnd_calls w.heap.size w.heap.size v1 L1 w1 HW1.out (by omega) (by omega) hLf).mono ?_
    rintro r w2 ⟨rfl, v2, hw2, hk2⟩
    have hb2 : EncBox w2 q true true d.length pcs := (hk2.heap q (by omega) (by omega) hvq).trans HB1.out
    obtain ⟨⟨c0, c1, c2⟩, f0, f1, f2⟩ := EncBox.cells hb2
    have hst := store_enc hb2 e2
    obtain ⟨hfin, hw3⟩ := close_fin hq (by omega) HK1.out HW1.out hk2 hw2 hb2 (by rw [stream_is parse_chosen, if_pos h0, ← List.append_assoc, HL1.out]; simp : sofar b d ++ (L1 ++ endBits) = _)
    have HFIN : Hid (CloseAns w (w2.setRow q Try.zeroCells113) q d b (.returned (.tuple #[v2, .int .i64 0]))) := hfin
    have HW3 : Hid _ := hw3
    obtain ⟨vo, vc, rfl⟩ := OwnB.form hw2.own
    clear hw2 hk2 hb2 hw3 e1 e2 e3 hfin
    go_wp2_with fail
    refine (bytes_calls _ _ _ _ _ HW3.out).mono ?_
    rintro r w4 ⟨rfl, rfl⟩
    go_wp2
    go_ret2
    exact HFIN.out
  · have h0b : (0 : Int) < (d.length : Int) % 64 := by omega
    have hpl : (d.drop (64 * (d.length / 64))).length = d.length % 64 := by rw [List.length_drop]; omega
    have HWP : Hid (Calls Try.prog 33 #[.pointer (some ⟨w.heap.size, 0, none⟩), .slice (some ⟨q, 3, none⟩) (d.length % 64) 64] w1 fun e w' => e = .returned (.tuple #[]) ∧ WrDone w1 w' w.heap.size w.heap.size v1 (L1 ++ frameBits (parseOf (d.drop (64 * (d.length / 64)))) (d.drop (64 * (d.length / 64))))) := by
      have hbb := e1.bytes (d.length % 64)
      rw [e3] at hbb
      have := writePiece_calls w.heap.size w.heap.size v1 L1 (some ⟨q, 3, none⟩) (d.drop (64 * (d.length / 64))) 64 w1 HW1.out (by omega) (by omega) hLf (by omega) hbb (fun b off e => by
        simp at e
        obtain ⟨rfl, _⟩ := e
        exact ⟨by omega, by omega, hvq⟩)
      rw [hpl] at this
      exact this
    have hFF := frameBits_full (parseOf (d.drop (64 * (d.length / 64)))) (d.drop (64 * (d.length / 64)))
    have hFL := frame_chosen parse_chosen (d.drop (64 * (d.length / 64))) (by omega)
    rw [(chosen_made parse_chosen _ (show (d.drop (64 * (d.length / 64))).length ≤ 64 by omega)).2.1] at hFL
    have HSI : Hid _ := stream_is parse_chosen d
    rw [if_neg h0] at HSI
    generalize frameBits (parseOf (d.drop (64 * (d.length / 64)))) (d.drop (64 * (d.length / 64))) = FB at *
    clear hpl
    have hb1 : (0 : Int) ≤ (d.length : Int) % 64 ∧ (d.length : Int) % 64 ≤ 64 := by omega
    have hb1' : (0 : Int) ≤ (d.length : Int).tmod 64 ∧ (d.length : Int).tmod 64 ≤ 64 := by rw [Int.tmod_eq_emod_of_nonneg (by omega)]; exact hb1
    have hb3 : ¬ (64 : Int) < (d.length : Int) % 64 := by omega
    go_wp2_with fail
    refine Calls.mono HWP.out ?_
    rintro r w2 ⟨rfl, v2, hw2, hk2⟩
    have hs2 := hk2.size
    have hb2 : EncBox w2 q true true d.length pcs := (hk2.heap q (by omega) (by omega) hvq).trans HB1.out
    have hv2q : v2.ownBlock ≠ some q := fun e => by have := (World.ownsRow.lt hw2.own q e).1; omega
    have HB2 : Hid _ := hb2
    have HW2 : Hid _ := hw2
    have HK2 : Hid (OneKept w w2 q) := ⟨hk2.os.trans HK1.out.os, hk2.tape.trans HK1.out.tape, hk2.output.trans HK1.out.output, by omega, fun k h1 h2 => (hk2.heap k (by omega) (by omega) (fun e => by have := (World.ownsRow.lt HW1.out.own k e).1; omega)).trans (HK1.out.heap k h1 h2)⟩
    clear hw2 hk2 hb2 HWP
    go_wp2_with fail
    refine (writeEnd_calls w.heap.size w.heap.size v2 (L1 ++ FB) w2 HW2.out (by omega) (by rw [List.length_append]; omega) (by rw [List.length_append]; omega)).mono ?_
    rintro r w3 ⟨rfl, v3, hw3, hk3⟩
    have hb3 : EncBox w3 q true true d.length pcs := (hk3.heap q (by omega) (by omega) hv2q).trans HB2.out
    have hst := store_enc hb3 e2
    obtain ⟨hfin, hw4⟩ := close_fin hq (by omega) HK2.out HW2.out hk3 hw3 hb3 (by rw [HSI.out, ← HL1.out]; simp : sofar b d ++ (L1 ++ FB ++ endBits) = _)
    have HFIN : Hid (CloseAns w (w3.setRow q Try.zeroCells113) q d b (.returned (.tuple #[v3, .int .i64 0]))) := hfin
    have HW4 : Hid _ := hw4
    obtain ⟨⟨c0, c1, c2⟩, f0, f1, f2⟩ := EncBox.cells hb3
    obtain ⟨vo, vc, rfl⟩ := OwnB.form hw3.own
    clear hw3 hk3 hb3 hw4 e1 e2 e3 hfin
    generalize (wrun (L1 ++ FB ++ endBits)).1.length = NL at *
    go_wp2_with fail
    refine (bytes_calls _ _ _ _ _ HW4.out).mono ?_
    rintro r w4 ⟨rfl, rfl⟩
    go_wp2
    go_ret2
    exact HFIN.out
end Go.Proofs.Ytnpnaglgllcpfab
