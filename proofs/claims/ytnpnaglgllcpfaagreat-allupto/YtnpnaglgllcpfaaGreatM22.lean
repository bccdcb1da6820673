/-
  Lemmas for the law All: Ecr4, Al, Bst, Wid, Blk.
-/
import Derived.Test.YtnpnaglgllcpfaaGreatM21
import Derived.Laws.Tables
import Derived.Test.YtnpnaglgllcpfaaGreatM14
import Derived.Test.YtnpnaglgllcpfaaGreatM15
import Derived.BigRegion
import Derived.Test.YtnpnaglgllcpfaaGreatM13
import Derived.Laws.MakeOwn
/- What the program's Encoder answers: Write of one that is closed, or of too much; Close. -/
namespace Go.Proofs.YtnpnaglgllcpfaaGreat
set_option maxRecDepth 100000
open Go.RowKit

theorem ewrite_nil (pa : Option Addr) (pn pc : Nat) (w : World) :
    Calls Tryz.prog 44 #[.pointer none, .slice pa pn pc] w fun r w' => r = .returned (.tuple #[.slice none 0 0, .int .i64 10]) ∧ w' = w := by
  go_enter Tryz.func44, Tryz.ntmps44
  go_wp2
  go_ret2
  exact ⟨rfl, rfl⟩
theorem ewrite_shut (q : Nat) (pa : Option Addr) (pn pc : Nat) (w : World) (h : EncShut w q) :
    Calls Tryz.prog 44 #[.pointer (some ⟨q, 0, none⟩), .slice pa pn pc] w fun r w' => r = .returned (.tuple #[.slice none 0 0, .int .i64 10]) ∧ w' = w := by
  obtain ⟨b, n, pcs, h⟩ := h
  obtain ⟨⟨c0, c1, c2⟩, _⟩ := h.cells
  clear h
  go_enter Tryz.func44, Tryz.ntmps44
  go_wp2
  go_ret2
  exact ⟨rfl, rfl⟩
theorem ewrite_long (q : Nat) (d : List UInt8) (b : Bool) (pa : Option Addr) (pn pc : Nat) (w : World) (h : EncAt w q d b) (hl : 2048 < d.length + pn) :
    Calls Tryz.prog 44 #[.pointer (some ⟨q, 0, none⟩), .slice pa pn pc] w fun r w' => r = .returned (.tuple #[.slice none 0 0, .int .i64 1]) ∧ w' = w := by
  obtain ⟨pcs, h, _, _, hd, _⟩ := h
  obtain ⟨⟨c0, c1, c2⟩, _⟩ := h.cells
  have hlp : (2048 : Int) - (d.length : Int) < (pn : Int) := by omega
  clear h
  go_enter Tryz.func44, Tryz.ntmps44
  go_wp2
  go_ret2
  exact ⟨rfl, rfl⟩
theorem eclose_nil (w : World) :
    Calls Tryz.prog 47 #[.pointer none] w fun r w' => r = .returned (.tuple #[.slice none 0 0, .int .i64 10]) ∧ w' = w := by
  go_enter Tryz.func47, Tryz.ntmps47
  go_wp2
  go_ret2
  exact ⟨rfl, rfl⟩
theorem eclose_shut (q : Nat) (w : World) (h : EncShut w q) :
    Calls Tryz.prog 47 #[.pointer (some ⟨q, 0, none⟩)] w fun r w' => r = .returned (.tuple #[.slice none 0 0, .int .i64 10]) ∧ w' = w := by
  obtain ⟨b, n, pcs, h⟩ := h
  obtain ⟨⟨c0, c1, c2⟩, _⟩ := h.cells
  clear h
  go_enter Tryz.func47, Tryz.ntmps47
  go_wp2
  go_ret2
  exact ⟨rfl, rfl⟩
theorem setRow_block {w : World} {g : Nat} {cs cur : Array Value} {t : TypeId} {m : Nat × Nat} (h : w.heap[g]? = some (.cells cur t m)) : (w.setRow g cs).heap[g]? = some (.cells cs t m) := by
  have hlt := (Array.getElem?_eq_some_iff.1 h).1
  have h' : w.heap[g] = .cells cur t m := (Array.getElem?_eq_some_iff.1 h).2
  show (w.heap.modify g _)[g]? = _
  rw [Array.getElem?_eq_getElem (by simpa using hlt), Array.getElem_modify_self, h']
theorem setRow_other {w : World} {g k : Nat} {cs : Array Value} (h : k ≠ g) : (w.setRow g cs).heap[k]? = w.heap[k]? := by
  show (w.heap.modify g _)[k]? = _
  rw [Array.getElem?_modify]
  simp [Ne.symm h]
theorem setRow_size (w : World) (g : Nat) (cs : Array Value) : (w.setRow g cs).heap.size = w.heap.size := by
  show (w.heap.modify g _).size = _
  simp
theorem zeroEnc : Tryz.zeroCells83 = encCells false false 0 (List.replicate 64 0) := by kernel_rfl
/-- An Encoder is overwritten by one of noughts. -/
theorem store_enc {w : World} {q : Nat} {o b : Bool} {n : Int} {pc : List UInt8} (h : EncBox w q o b n pc) (hp : pc.length = 64) : (storeCells ⟨q, 0, none⟩ Tryz.zeroCells83.toList).run Tryz.prog w = .ok () (w.setRow q Tryz.zeroCells83) := by
  have := run_storeCells_from (P := Tryz.prog) q 83 Tryz.zeroCells83.toList 0 (encCells o b n pc) w h (by rw [zeroEnc]; simp [encCells, cellsB, hp]) (by
    intro v hv
    rw [zeroEnc] at hv
    simp [encCells, cellsB] at hv
    rcases hv with rfl | rfl | rfl <;> rfl)
  simpa using this
/-- How Close of an open Encoder ends. -/
def CloseAns (w w' : World) (q : Nat) (d : List UInt8) (b : Bool) (r : Ending) : Prop :=
  OneKept w w' q ∧ EncShut w' q ∧ ∃ L vy, r = .returned (.tuple #[vy, .int .i64 0]) ∧ sofar b d ++ L = streamBits (toksOf parseOf d) ∧ OwnB w' w.heap.size vy (toBytes L)

theorem close_fin {w w1 w2 : World} {q : Nat} {d : List UInt8} {b : Bool} {v1 v2 : Value} {L : List Bool} {o c : Bool} {n : Int} {pc : List UInt8} (hq : q < w.heap.size) (hs1 : w.heap.size ≤ w1.heap.size) (hk1 : OneKept w w1 q) (hw1 : WrAt w1 w.heap.size w.heap.size v1 L) (hk2 : WrKept w1 w2 w.heap.size v1 v2) (hw2 : WrAt w2 w.heap.size w.heap.size v2 (L ++ endBits)) (hb2 : EncBox w2 q o c n pc)
    (hL : sofar b d ++ (L ++ endBits) = streamBits (toksOf parseOf d)) : CloseAns w (w2.setRow q Tryz.zeroCells83) q d b (.returned (.tuple #[v2, .int .i64 0])) ∧ WrAt (w2.setRow q Tryz.zeroCells83) w.heap.size w.heap.size v2 (L ++ endBits) := by
  have hs2 := hk2.size
  have hv2 : ∀ k, v2.ownBlock = some k → k ≠ q := fun k hk e => by have := (World.ownsRow.lt hw2.own k hk).1; omega
  have hown : OwnB (w2.setRow q Tryz.zeroCells83) w.heap.size v2 (wrun (L ++ endBits)).1 := by
    refine ⟨hw2.own.1, ?_⟩
    rcases hw2.own.2 with h | ⟨g, cap, cur, g1, g2, g3, g4⟩
    · exact .inl h
    · exact .inr ⟨g, cap, cur, g1, g2, by rw [setRow_other (hv2 g (by rw [g1]; rfl))]; exact g3, g4⟩
  refine ⟨⟨⟨hk2.os.trans hk1.os, hk2.tape.trans hk1.tape, hk2.output.trans hk1.output, by rw [setRow_size]; omega, fun k h1 h2 => ?_⟩, ⟨false, 0, List.replicate 64 0, by show _ = _; rw [setRow_block hb2, zeroEnc]⟩, L ++ endBits, v2, rfl, hL, hown⟩, by rw [setRow_other (by omega)]; exact hw2.block, hown⟩
  rw [setRow_other h2, hk2.heap k (by omega) (by omega) (fun e => by have := (World.ownsRow.lt hw1.own k e).1; omega)]
  exact hk1.heap k h1 h2

set_option maxHeartbeats 4000000 in
theorem eclose_calls (q : Nat) (d : List UInt8) (b : Bool) (w : World) (h : EncAt w q d b) :
    Calls Tryz.prog 47 #[.pointer (some ⟨q, 0, none⟩)] w fun r w' => CloseAns w w' q d b r := by
  have hq := h.lt
  have HE : Hid (EncAt w q d b) := h
  obtain ⟨⟨c0, c1, c2⟩, _⟩ : (w.cell? ⟨q, 0, none⟩ = some (.bool true) ∧ w.cell? ⟨q, 1, none⟩ = some (.bool b) ∧ w.cell? ⟨q, 2, none⟩ = some (.int .i64 d.length)) ∧ _ := by
    obtain ⟨pc, h1, _⟩ := h
    exact h1.cells
  clear h
  go_enter Tryz.func47, Tryz.ntmps47
  go_wp2_with fail
  refine (begin_calls q w.heap.size d b _ (EncAt.kept HE.out (Below.heap_alloc _ _ _ hq)) (wr_new w) hq).mono ?_
  rintro r w1 ⟨rfl, he1, v1, L1, hw1, hL1, hk1⟩
  have hs1 := hk1.size
  simp at hs1
  have HW1 : Hid (WrAt w1 w.heap.size w.heap.size v1 L1) := hw1
  have HL1 : Hid _ := hL1
  have HK1 : Hid (OneKept w w1 q) := ⟨hk1.os, hk1.tape, hk1.output, by omega, fun k h1 h2 => (hk1.heap k (by simp; omega) (by simp; omega)).trans (Below.heap_alloc _ _ _ h1)⟩
  obtain ⟨pcs, e1, e2, e3, e4, _⟩ := he1
  have HB1 : Hid _ := e1
  obtain ⟨⟨c0, c1, c2⟩, f0, f1, f2⟩ := e1.cells
  have hvq : v1.ownBlock ≠ some q := fun e => by have := (World.ownsRow.lt hw1.own q e).1; omega
  have hfb := fullBits_le d
  have hLl : (sofar b d).length + L1.length = 24 + (fullBits parseOf d).length := by
    have := congrArg List.length hL1
    rw [List.length_append, List.length_append, magic_length] at this
    exact this
  have hLf : L1.length % 8 = 0 := by
    have h1 := sofar_full b d
    have h2 := fullBits_fits parseOf d
    omega
  have hL5 : L1.length ≤ 5000000 := by omega
  clear hw1 hL1 hk1 hfb hLl
  by_cases h0 : d.length % 64 = 0
  · have h0b : ¬ (0 : Int) < (d.length : Int) % 64 := by omega
    go_wp2_with fail
    refine (writeEnd_calls w.heap.size w.heap.size v1 L1 w1 HW1.out (by omega) (by omega) hLf).mono ?_
    rintro r w2 ⟨rfl, v2, hw2, hk2⟩
    have hb2 : EncBox w2 q true true d.length pcs := (hk2.heap q (by omega) (by omega) hvq).trans HB1.out
    obtain ⟨⟨c0, c1, c2⟩, f0, f1, f2⟩ := EncBox.cells hb2
    have hst := store_enc hb2 e2
    obtain ⟨hfin, hw3⟩ := close_fin hq (by omega) HK1.out HW1.out hk2 hw2 hb2 (by rw [stream_is parse_chosen, if_pos h0, ← List.append_assoc, HL1.out]; simp : sofar b d ++ (L1 ++ endBits) = _)
    have HFIN : Hid (CloseAns w (w2.setRow q Tryz.zeroCells83) q d b (.returned (.tuple #[v2, .int .i64 0]))) := hfin
    have HW3 : Hid _ := hw3
    obtain ⟨vo, vc, rfl⟩ := OwnB.form hw2.own
    clear hw2 hk2 hb2 hw3 e1 e2 e3 hfin
    go_wp2_with fail
    refine (bytes_calls _ _ _ _ _ HW3.out).mono ?_
    rintro r w4 ⟨rfl, rfl⟩
    go_wp2
    go_ret2
    exact HFIN.out
  · have h0b : (0 : Int) < (d.length : Int) % 64 := by omega
    have hpl : (d.drop (64 * (d.length / 64))).length = d.length % 64 := by rw [List.length_drop]; omega
    have HWP : Hid (Calls Tryz.prog 83 #[.pointer (some ⟨w.heap.size, 0, none⟩), .slice (some ⟨q, 3, none⟩) (d.length % 64) 64] w1 fun e w' => e = .returned (.tuple #[]) ∧ WrDone w1 w' w.heap.size w.heap.size v1 (L1 ++ frameBits (parseOf (d.drop (64 * (d.length / 64)))) (d.drop (64 * (d.length / 64))))) := by
      have hbb := e1.bytes (d.length % 64)
      rw [e3] at hbb
      have := writePiece_calls w.heap.size w.heap.size v1 L1 (some ⟨q, 3, none⟩) (d.drop (64 * (d.length / 64))) 64 w1 HW1.out (by omega) (by omega) hLf (by omega) hbb (fun b off e => by
        simp at e
        obtain ⟨rfl, _⟩ := e
        exact ⟨by omega, by omega, hvq⟩)
      rw [hpl] at this
      exact this
    have hFF := frameBits_full (parseOf (d.drop (64 * (d.length / 64)))) (d.drop (64 * (d.length / 64)))
    have hFL := frame_chosen parse_chosen (d.drop (64 * (d.length / 64))) (by omega)
    rw [(chosen_made parse_chosen _ (show (d.drop (64 * (d.length / 64))).length ≤ 64 by omega)).2.1] at hFL
    have HSI : Hid _ := stream_is parse_chosen d
    rw [if_neg h0] at HSI
    generalize frameBits (parseOf (d.drop (64 * (d.length / 64)))) (d.drop (64 * (d.length / 64))) = FB at *
    clear hpl
    have hb1 : (0 : Int) ≤ (d.length : Int) % 64 ∧ (d.length : Int) % 64 ≤ 64 := by omega
    have hb1' : (0 : Int) ≤ (d.length : Int).tmod 64 ∧ (d.length : Int).tmod 64 ≤ 64 := by rw [Int.tmod_eq_emod_of_nonneg (by omega)]; exact hb1
    have hb3 : ¬ (64 : Int) < (d.length : Int) % 64 := by omega
    go_wp2_with fail
    refine Calls.mono HWP.out ?_
    rintro r w2 ⟨rfl, v2, hw2, hk2⟩
    have hs2 := hk2.size
    have hb2 : EncBox w2 q true true d.length pcs := (hk2.heap q (by omega) (by omega) hvq).trans HB1.out
    have hv2q : v2.ownBlock ≠ some q := fun e => by have := (World.ownsRow.lt hw2.own q e).1; omega
    have HB2 : Hid _ := hb2
    have HW2 : Hid _ := hw2
    have HK2 : Hid (OneKept w w2 q) := ⟨hk2.os.trans HK1.out.os, hk2.tape.trans HK1.out.tape, hk2.output.trans HK1.out.output, by omega, fun k h1 h2 => (hk2.heap k (by omega) (by omega) (fun e => by have := (World.ownsRow.lt HW1.out.own k e).1; omega)).trans (HK1.out.heap k h1 h2)⟩
    clear hw2 hk2 hb2 HWP
    go_wp2_with fail
    refine (writeEnd_calls w.heap.size w.heap.size v2 (L1 ++ FB) w2 HW2.out (by omega) (by rw [List.length_append]; omega) (by rw [List.length_append]; omega)).mono ?_
    rintro r w3 ⟨rfl, v3, hw3, hk3⟩
    have hb3 : EncBox w3 q true true d.length pcs := (hk3.heap q (by omega) (by omega) hv2q).trans HB2.out
    have hst := store_enc hb3 e2
    obtain ⟨hfin, hw4⟩ := close_fin hq (by omega) HK2.out HW2.out hk3 hw3 hb3 (by rw [HSI.out, ← HL1.out]; simp : sofar b d ++ (L1 ++ FB ++ endBits) = _)
    have HFIN : Hid (CloseAns w (w3.setRow q Tryz.zeroCells83) q d b (.returned (.tuple #[v3, .int .i64 0]))) := hfin
    have HW4 : Hid _ := hw4
    obtain ⟨⟨c0, c1, c2⟩, f0, f1, f2⟩ := EncBox.cells hb3
    obtain ⟨vo, vc, rfl⟩ := OwnB.form hw3.own
    clear hw3 hk3 hb3 hw4 e1 e2 e3 hfin
    generalize (wrun (L1 ++ FB ++ endBits)).1.length = NL at *
    go_wp2_with fail
    refine (bytes_calls _ _ _ _ _ HW4.out).mono ?_
    rintro r w4 ⟨rfl, rfl⟩
    go_wp2
    go_ret2
    exact HFIN.out
end Go.Proofs.YtnpnaglgllcpfaaGreat

/- How far a copy goes: pressref.Alike. -/
namespace Go.Proofs.YtnpnaglgllcpfaaGreat
set_option maxRecDepth 100000
open Go.RowKit

set_option maxHeartbeats 1000000 in
theorem alike_calls (a : Option Addr) (p : List UInt8) (cap i d : Nat) (w : World) (hp : p.length ≤ 64) (hb : BytesAt w a p) (hi : i ≤ p.length) (hd : d ≤ i) (hd1 : 1 ≤ d) :
    Calls Tryz.prog 107 #[.slice a p.length cap, .int .i64 i, .int .i64 d] w fun e w' => (∃ n : Nat, e = .returned (.int .i64 n) ∧ AlikeMost p i d n) ∧ ∃ n, w' = w.drewN n := by
  have HB : Hid (BytesAt w a p) := hb
  clear hb
  go_enter Tryz.func107, Tryz.ntmps107
  go_wp2
  go_loopw [7] (fun v wr => ∃ (n : Nat), v = .int .i64 n ∧ i + n ≤ p.length ∧ Hid (Alike p i d n) ∧ ∃ nd, wr = w.drewN nd) (fun v _ => p.length - (intOf v).toNat)
  case atStart => exact ⟨0, rfl, by omega, ⟨by omega, fun m hm => by omega⟩, 0, rfl⟩
  case round =>
    obtain ⟨n, rfl, hn, hal, nd, rfl⟩ := hrel
    by_cases hlt : i + n < p.length
    · obtain ⟨b, off, ha, hcell⟩ : ∃ b off, a = some ⟨b, off, none⟩ ∧ ∀ j, j < p.length → w.cell? ⟨b, off + j, none⟩ = some (.int .u8 (p.getD j 0).toNat) := by
        rcases HB.out with h | h
        · rw [h] at hlt; simp at hlt
        · exact h
      subst ha
      have c0 : (w.drewN nd).cell? ⟨b, off + (i + n), none⟩ = some (.int .u8 (p.getD (i + n) 0).toNat) := hcell (i + n) hlt
      have c1 : (w.drewN nd).cell? ⟨b, off + (i + n - d), none⟩ = some (.int .u8 (p.getD (i + n - d) 0).toNat) := hcell (i + n - d) (by omega)
      clear hcell
      have hix : 0 ≤ (i : Int) + (n : Int) ∧ (i : Int) + (n : Int) < (p.length : Int) := by omega
      have hix2 : 0 ≤ (i : Int) + (n : Int) - (d : Int) ∧ (i : Int) + (n : Int) - (d : Int) < (p.length : Int) := by omega
      have hlt' : (i : Int) + (n : Int) < (p.length : Int) := by omega
      generalize hw0 : w.drewN nd = w0 at *
      have HW0 : Hid (w.drewN nd = w0) := hw0
      clear hw0
      generalize hx : p.getD (i + n) 0 = x at *
      generalize hy : p.getD (i + n - d) 0 = y at *
      have HX : Hid (p.getD (i + n) 0 = x) := hx
      have HY : Hid (p.getD (i + n - d) 0 = y) := hy
      clear hx hy
      by_cases hxy : x = y
      · have hb : ((x.toNat : Int) == (y.toNat : Int)) = true := by simp [hxy]
        have HN : Hid (Alike p i d (n + 1)) := by
          refine ⟨by omega, fun m hm => ?_⟩
          rcases Nat.lt_or_ge m n with h | h
          · exact hal.out.2 m h
          · have : m = n := by omega
            subst this
            rw [HX.out, HY.out, hxy]
        clear hxy
        go_wp2_with fail
        go_quiet (fail)
        go_wp2
        go_roundw
        case rel => exact ⟨n + 1, by go_num, by omega, HN, _, by rw [← HW0.out, World.drewN_drewN]⟩
        case measure => simp [intOf]; omega
      · have hb : ((x.toNat : Int) == (y.toNat : Int)) = false := by
          simp only [beq_eq_false_iff_ne, ne_eq]
          intro h
          exact hxy (UInt8.toNat_inj.1 (by omega))
        have HN : Hid (AlikeMost p i d n) := ⟨hal.out, .inr (by rw [HX.out, HY.out]; exact hxy)⟩
        clear hxy
        go_wp2_with fail
        go_quiet (fail)
        go_wp2
        go_ret
        exact ⟨⟨n, rfl, HN.out⟩, _, by rw [← HW0.out, World.drewN_drewN]⟩
    · have hf : decide ((i : Int) + (n : Int) < (p.length : Int)) = false := by simp; omega
      have HN : Hid (AlikeMost p i d n) := ⟨hal.out, .inl (by omega)⟩
      go_wp2_with fail
      go_quiet (fail)
      go_wp2
      go_ret
      exact ⟨⟨n, rfl, HN.out⟩, _, World.drewN_drewN _ _ _⟩
theorem alike_is (a : Option Addr) (p : List UInt8) (cap i d : Nat) (w : World) (hp : p.length ≤ 64) (hb : BytesAt w a p) (hi : i ≤ p.length) (hd : d ≤ i) (hd1 : 1 ≤ d) :
    Calls Tryz.prog 107 #[.slice a p.length cap, .int .i64 i, .int .i64 d] w fun e w' => e = .returned (.int .i64 (alk p i d)) ∧ ∃ n, w' = w.drewN n := by
  refine (alike_calls a p cap i d w hp hb hi hd hd1).mono ?_
  rintro e w' ⟨⟨n, rfl, hn⟩, h⟩
  exact ⟨by rw [hn.eq (alk_most p i d hi)], h⟩
end Go.Proofs.YtnpnaglgllcpfaaGreat

/- The document's least cost: capped, meet. -/
namespace Go.Proofs.YtnpnaglgllcpfaaGreat
set_option maxRecDepth 100000
open Go.RowKit

theorem capped_calls (n : Int) (w : World) : Calls Tryz.prog 111 #[.int .i64 n] w fun e w' => e = .returned (.int .i64 (cap9 n)) ∧ w' = w := by
  by_cases h : 1000000000 < n
  · go_enter Tryz.func111, Tryz.ntmps111
    go_wp2
    go_ret
    exact ⟨ret_i64 (by unfold cap9; omega), rfl⟩
  · go_enter Tryz.func111, Tryz.ntmps111
    go_wp2
    go_ret
    exact ⟨ret_i64 (by unfold cap9; omega), rfl⟩

def ints (l : List Int) : Array Value := (l.map fun n => Value.int .i64 n).toArray
/-- What is known lies in memory. -/
structure KnownAt (w : World) (q gc gw cc cw : Nat) (cs ws : List Int) : Prop where
  box : w.heap[q]? = some (.cells #[.slice (some ⟨gc, 0, none⟩) cs.length cc, .slice (some ⟨gw, 0, none⟩) ws.length cw] 141 (0, 0))
  costs : w.heap[gc]? = some (.cells (ints cs) 3 (0, 0))
  ways : w.heap[gw]? = some (.cells (ints ws) 3 (0, 0))
  ne1 : q ≠ gc
  ne2 : q ≠ gw
  ne3 : gc ≠ gw
theorem cell_of {w : World} {q : Nat} {cs : Array Value} {t : TypeId} {mk : Nat × Nat} (h : w.heap[q]? = some (.cells cs t mk)) (i : Nat) (v : Value) (hv : cs[i]? = some v) : w.cell? ⟨q, i, none⟩ = some v := by
  simp [World.cell?, h, hv]
theorem frozen_of {w : World} {q : Nat} {cs : Array Value} {t : TypeId} (h : w.heap[q]? = some (.cells cs t (0, 0))) (i : Nat) : w.frozen? ⟨q, i, none⟩ = false := by
  simp [World.frozen?, h]
structure KCells (w : World) (q gc gw cc cw : Nat) (cs ws : List Int) (k : Nat) : Prop where
  c0 : w.cell? ⟨q, 0, none⟩ = some (.slice (some ⟨gc, 0, none⟩) cs.length cc)
  c1 : w.cell? ⟨q, 1, none⟩ = some (.slice (some ⟨gw, 0, none⟩) ws.length cw)
  c2 : w.cell? ⟨gc, k, none⟩ = some (.int .i64 (cs.getD k 0))
  c3 : w.cell? ⟨gw, k, none⟩ = some (.int .i64 (ws.getD k 0))
  f2 : w.frozen? ⟨gc, k, none⟩ = false
  f3 : w.frozen? ⟨gw, k, none⟩ = false
theorem KnownAt.cells {w : World} {q gc gw cc cw : Nat} {cs ws : List Int} (h : KnownAt w q gc gw cc cw cs ws) (k : Nat) (hk : k < cs.length) (hk' : k < ws.length) : KCells w q gc gw cc cw cs ws k :=
  ⟨cell_of h.box 0 _ rfl, cell_of h.box 1 _ rfl, cell_of h.costs k _ (by simp [ints, hk, List.getD]), cell_of h.ways k _ (by simp [ints, hk', List.getD]), frozen_of h.costs k, frozen_of h.ways k⟩
theorem ints_set (l : List Int) (k : Nat) (x : Int) : (ints l).setIfInBounds k (.int .i64 x) = ints (l.set k x) := by
  unfold ints
  rw [List.setIfInBounds_toArray, List.map_set]
theorem KnownAt.setC {w : World} {q gc gw cc cw : Nat} {cs ws : List Int} (h : KnownAt w q gc gw cc cw cs ws) (k : Nat) (x : Int) : KnownAt (w.setCell ⟨gc, k, none⟩ (.int .i64 x)) q gc gw cc cw (cs.set k x) ws :=
  ⟨by rw [set_other _ h.ne1, List.length_set]; exact h.box, by rw [set_block h.costs, ints_set], by rw [set_other _ (Ne.symm h.ne3)]; exact h.ways, h.ne1, h.ne2, h.ne3⟩
theorem KnownAt.setW {w : World} {q gc gw cc cw : Nat} {cs ws : List Int} (h : KnownAt w q gc gw cc cw cs ws) (k : Nat) (x : Int) : KnownAt (w.setCell ⟨gw, k, none⟩ (.int .i64 x)) q gc gw cc cw cs (ws.set k x) :=
  ⟨by rw [set_other _ h.ne2, List.length_set]; exact h.box, by rw [set_other _ h.ne3]; exact h.costs, by rw [set_block h.ways, ints_set], h.ne1, h.ne2, h.ne3⟩
theorem KnownAt.below {w w' : World} {q gc gw cc cw : Nat} {cs ws : List Int} (h : KnownAt w q gc gw cc cw cs ws) (hb : Below w.heap.size w w') : KnownAt w' q gc gw cc cw cs ws :=
  ⟨by rw [hb.block q (Array.getElem?_eq_some_iff.1 h.box).1]; exact h.box, by rw [hb.block gc (Array.getElem?_eq_some_iff.1 h.costs).1]; exact h.costs, by rw [hb.block gw (Array.getElem?_eq_some_iff.1 h.ways).1]; exact h.ways, h.ne1, h.ne2, h.ne3⟩
theorem KnownAt.drewN {w : World} {q gc gw cc cw : Nat} {cs ws : List Int} (h : KnownAt w q gc gw cc cw cs ws) (n : Nat) : KnownAt (w.drewN n) q gc gw cc cw cs ws := ⟨h.box, h.costs, h.ways, h.ne1, h.ne2, h.ne3⟩

/-- All blocks but two are as they were. -/
structure TwoKept (w w' : World) (g h : Nat) : Prop where
  os : w'.os = w.os
  tape : w'.tape = w.tape
  output : w'.output = w.output
  size : w.heap.size ≤ w'.heap.size
  heap : ∀ k, k < w.heap.size → k ≠ g → k ≠ h → w'.heap[k]? = w.heap[k]?
theorem TwoKept.refl (w : World) (g h : Nat) : TwoKept w w g h := ⟨rfl, rfl, rfl, Nat.le_refl _, fun _ _ _ _ => rfl⟩
theorem TwoKept.trans {w w1 w2 : World} {g h : Nat} (a : TwoKept w w1 g h) (b : TwoKept w1 w2 g h) : TwoKept w w2 g h :=
  ⟨b.os.trans a.os, b.tape.trans a.tape, b.output.trans a.output, Nat.le_trans a.size b.size, fun k hk h1 h2 => (b.heap k (Nat.lt_of_lt_of_le hk a.size) h1 h2).trans (a.heap k hk h1 h2)⟩
theorem TwoKept.drewN {w w' : World} {g h : Nat} (a : TwoKept w w' g h) (n : Nat) : TwoKept w (w'.drewN n) g h := ⟨a.os, a.tape, a.output, a.size, a.heap⟩
theorem TwoKept.drew {w w' : World} {g h : Nat} (a : TwoKept w w' g h) : TwoKept w w'.drew g h := ⟨a.os, a.tape, a.output, a.size, a.heap⟩
theorem TwoKept.set1 {w w' : World} {g h i : Nat} (a : TwoKept w w' g h) (u : Value) : TwoKept w (w'.setCell ⟨g, i, none⟩ u) g h :=
  ⟨a.os, a.tape, a.output, by rw [set_size]; exact a.size, fun k hk h1 h2 => by rw [set_other u h1]; exact a.heap k hk h1 h2⟩
theorem TwoKept.set2 {w w' : World} {g h i : Nat} (a : TwoKept w w' g h) (u : Value) : TwoKept w (w'.setCell ⟨h, i, none⟩ u) g h :=
  ⟨a.os, a.tape, a.output, by rw [set_size]; exact a.size, fun k hk h1 h2 => by rw [set_other u h2]; exact a.heap k hk h1 h2⟩
theorem KnownAt.drew {w : World} {q gc gw cc cw : Nat} {cs ws : List Int} (h : KnownAt w q gc gw cc cw cs ws) : KnownAt w.drew q gc gw cc cw cs ws := ⟨h.box, h.costs, h.ways, h.ne1, h.ne2, h.ne3⟩
theorem wrapEq (x : Int) (h : -9223372036854775808 ≤ x ∧ x ≤ 9223372036854775807) : IntKind.i64.wrap x = x := by rw [IntKind.wrap_i64]; omega

set_option maxHeartbeats 1000000 in
theorem meet_calls (q gc gw cc cw : Nat) (cs ws : List Int) (k : Nat) (cost ways : Int) (w : World) (h : KnownAt w q gc gw cc cw cs ws) (hl : ws.length = cs.length) (hk : k < cs.length)
    (hc : 0 ≤ cost ∧ cost ≤ 2000000000) (hw : 0 ≤ ways ∧ ways ≤ 1000000000) (hwk : 0 ≤ ws.getD k 0 ∧ ws.getD k 0 ≤ 1000000000) :
    Calls Tryz.prog 106 #[.pointer (some ⟨q, 0, none⟩), .int .i64 k, .int .i64 cost, .int .i64 ways] w fun e w' => e = .returned (.tuple #[]) ∧ KnownAt w' q gc gw cc cw (meetC cs k cost) (meetW cs ws k cost ways) ∧ TwoKept w w' gc gw := by
  have hk' : k < ws.length := by omega
  have hsl : (cs.set k cost).length = cs.length := by simp
  have hsl2 : ∀ x, (ws.set k x).length = ws.length := by simp
  have K1 := h.cells k hk hk'
  have K2 := (h.setC k cost).cells k (by omega) hk'
  have K3 := ((h.setC k cost).setW k 0).cells k (by omega) (by rw [hsl2]; omega)
  have HK : Hid (KnownAt w q gc gw cc cw cs ws) := h
  have hkI : 0 ≤ (k : Int) ∧ (k : Int) < (cs.length : Int) := by omega
  have hkI2 : 0 ≤ (k : Int) ∧ (k : Int) < (ws.length : Int) := by omega
  have g1 : (cs.set k cost).getD k 0 = cost := by simp [List.getD, hk]
  have g2 : (ws.set k 0).getD k 0 = 0 := by simp [List.getD, hk']
  obtain ⟨a0, a1, a2, a3, a4, a5⟩ := K1
  obtain ⟨b0, b1, b2, b3, b4, b5⟩ := K2
  obtain ⟨d0, d1, d2, d3, d4, d5⟩ := K3
  rw [hsl] at b0 d0
  rw [hsl2] at d1
  rw [g1] at b2 d2
  rw [g2] at d3
  have HL : Hid (ws.length = cs.length) := hl
  clear h hl hsl hsl2 g1 g2
  go_enter Tryz.func106, Tryz.ntmps106
  rcases Int.lt_or_le cost (cs.getD k 0) with hlt | hge
  · have HM : Hid (meetC cs k cost = cs.set k cost ∧ meetW cs ws k cost ways = (ws.set k 0).set k (cap9 (0 + ways))) := by
      refine ⟨by unfold meetC; rw [if_pos hlt], ?_⟩
      unfold meetW
      rw [if_pos hlt, List.set_set, Int.zero_add]
    generalize hx : cs.getD k 0 = x at *
    generalize hy : ws.getD k 0 = y at *
    clear hx hy
    have HK3 : Hid (KnownAt ((w.setCell ⟨gc, k, none⟩ (.int .i64 cost)).setCell ⟨gw, k, none⟩ (.int .i64 0)) q gc gw cc cw (cs.set k cost) (ws.set k 0)) := (HK.out.setC k cost).setW k 0
    have HF3 : Hid (TwoKept w ((w.setCell ⟨gc, k, none⟩ (.int .i64 cost)).setCell ⟨gw, k, none⟩ (.int .i64 0)) gc gw) := ((TwoKept.refl _ _ _).set1 _).set2 _
    have HWR : Hid (IntKind.i64.wrap ways = 0 + ways) := by show _ = _; rw [wrapEq ways (by omega), Int.zero_add]
    go_wp2_with fail
    clear a0 a1 a2 a3 a4 a5 b0 b1 b2 b3 b4 b5
    generalize (w.setCell ⟨gc, k, none⟩ (.int .i64 cost)).setCell ⟨gw, k, none⟩ (.int .i64 0) = w2 at *
    go_region_with (go_at_call 111; refine (capped_calls _ _).mono ?_; rintro e w' ⟨rfl, rfl⟩)
    all_goals
      go_end0
      refine ⟨rfl, ?_, (HF3.out.set2 _).drew⟩
      rw [HM.out.1, HM.out.2, HWR.out]
      exact (HK3.out.setW k _).drew
  · clear b0 b1 b2 b3 b4 b5 d0 d1 d2 d3 d4 d5
    rcases Int.lt_or_eq_of_le hge with hgt | heq
    · have HM : Hid (meetC cs k cost = cs ∧ meetW cs ws k cost ways = ws) := by
        refine ⟨by unfold meetC; rw [if_neg (by omega)], ?_⟩
        unfold meetW
        rw [if_neg (by omega), if_neg (by omega)]
      generalize hx : cs.getD k 0 = x at *
      generalize hy : ws.getD k 0 = y at *
      clear hx hy
      have hb : (cost == x) = false := by simp; omega
      go_wp2
      go_end0
      refine ⟨rfl, ?_, TwoKept.refl _ _ _⟩
      rw [HM.out.1, HM.out.2]
      exact HK.out
    · have HM : Hid (meetC cs k cost = cs ∧ meetW cs ws k cost ways = ws.set k (cap9 (ws.getD k 0 + ways))) := by
        refine ⟨by unfold meetC; rw [if_neg (by omega)], ?_⟩
        unfold meetW
        rw [if_neg (by omega), if_pos heq.symm]
      generalize hx : cs.getD k 0 = x at *
      generalize hy : ws.getD k 0 = y at *
      clear hx hy
      subst heq
      have HWR : Hid (IntKind.i64.wrap (y + ways) = y + ways) := wrapEq _ (by omega)
      go_wp2_with fail
      go_region_with (go_at_call 111; refine (capped_calls _ _).mono ?_; rintro e w' ⟨rfl, rfl⟩)
      all_goals
        go_end0
        refine ⟨rfl, ?_, ((TwoKept.refl _ _ _).set2 _).drew⟩
        rw [HM.out.1, HM.out.2, HWR.out]
        exact (HK.out.setW k _).drew
end Go.Proofs.YtnpnaglgllcpfaaGreat

/- The document's table of widths. -/
namespace Go.Proofs.YtnpnaglgllcpfaaGreat
set_option maxRecDepth 100000
open Go.RowKit

/-- How wide each number is (0 has none). -/
def wid (j : Nat) : Int := if j = 0 then 0 else Tok.numLen j
def wids (n : Nat) : List Value := (List.range n).map fun j => Value.int .i64 (wid j)
theorem wids_succ (n : Nat) : wids (n + 1) = wids n ++ [.int .i64 (wid n)] := by simp [wids, List.range_succ]
theorem wids_length (n : Nat) : (wids n).length = n := by simp [wids]
/-- The table lies in memory. -/
def WidAt (w : World) (B : Nat) (v : Value) (n : Nat) : Prop := w.ownsRow B 3 1 v n (wids n)

set_option maxHeartbeats 1000000 in
theorem widths_calls (w : World) :
    Calls Tryz.prog 105 #[] w fun e w' => Below w.heap.size w w' ∧ ∃ v, e = .returned v ∧ WidAt w' w.heap.size v 65 := by
  obtain ⟨i0, hi, hz0, hz1, hz2⟩ := info_parts infoInt
  go_enter Tryz.func105, Tryz.ntmps105
  go_wp2_with fail
  go_loopw [1, 2] (fun v i wr => ∃ k : Nat, 1 ≤ k ∧ k ≤ 65 ∧ i = .int .i64 k ∧ WidAt wr w.heap.size v k ∧ Below w.heap.size w wr) (fun _ i _ => 65 - (intOf i).toNat)
  case atStart =>
    refine ⟨1, by omega, by omega, rfl, ⟨rfl, .inr ⟨w.heap.size, 1, #[.int .i64 0], rfl, Nat.le_refl _, heap_alloc_new w _, Nat.le_refl _, by unfold maxLen; omega, rfl, rfl⟩⟩, (Below.refl _ _).alloc (Nat.le_refl _) _⟩
  case round =>
    obtain ⟨k, hk1, hk2, rfl, hrow, hb⟩ := hrel
    have HB : Hid (Below w.heap.size w wr) := hb
    have HR : Hid (wr.ownsRow w.heap.size 3 1 _ k (wids k)) := hrow
    have hsz := hb.size
    obtain ⟨ga, gc, rfl⟩ : ∃ a c, _ = Value.slice a k c := by
      rcases hrow.2 with ⟨h, hn⟩ | ⟨g, cap, cur, h, _⟩
      · omega
      · exact ⟨_, _, h⟩
    clear hrow hb
    by_cases hlt : k ≤ 64
    · have hts : (text (numBits k)).size = Tok.numLen k := by
        rw [← numBits_length]; simp [text, chars, ByteArray.size]
      have hnl : Tok.numLen k ≤ 15 := by have := Tok.log2_le_self k (by omega); unfold Tok.numLen; omega
      have HW : Hid (wid k = ((Tok.numLen k : Nat) : Int)) := by show _ = _; unfold wid; rw [if_neg (by omega)]
      have HTN : Hid ((k : Int).toNat = k) := Int.toNat_natCast k
      go_wp2_with fail
      refine (number_calls (k : Int) _ (by omega) (by omega)).mono ?_
      rintro e w1 ⟨rfl, rfl⟩
      rw [HTN.out]
      go_wp2_with (at_builtin; refine wpList_append_own _ rfl _ _ 90 rfl w.heap.size 3 i0 (.int .i64 0) 1 8 Tryz.underlying90 hi hz0 hz1 hz2 rfl (by decide) _ _ _ rfl (World.ownsRow.alloc HR.out _) ⟨w1.heap.size, 0, none⟩ 1 1 [.int .i64 (Tok.numLen k)] rfl rfl ?d1a ?d2a ?d3a ?d4a ?d5a ?_)
      case d1a => intro j u hj; exact cell_new1 _ _ _ j u hj
      case d2a => first | rfl | (intro u hu; simp at hu; subst hu; rfl)
      case d3a => unfold maxLen; omega
      case d4a => omega
      case d5a => first | omega | (simp; omega)
      intro v' w2 hown' hgrow _
      have HB2 : Hid (Below w.heap.size w w2) := (HB.out.alloc (by omega) _).grown hgrow (by simp; omega) (fun k hk => (World.ownsRow.lt HR.out k hk).1)
      have HR2 : Hid (WidAt w2 w.heap.size v' (k + 1)) := by
        show w2.ownsRow _ _ _ _ _ _
        rw [wids_succ, HW.out]
        exact hown'
      clear hown' hgrow
      go_wp2
      go_roundw
      case rel => exact ⟨k + 1, by omega, by omega, by go_num, HR2.out, HB2.out⟩
      case measure => simp [intOf]; omega
    · have hk : k = 65 := by omega
      subst hk
      go_wp2
      go_ret
      exact ⟨HB.out, _, rfl, HR.out⟩
end Go.Proofs.YtnpnaglgllcpfaaGreat

/- The document's table of what is known, when nothing is. -/
namespace Go.Proofs.YtnpnaglgllcpfaaGreat
set_option maxRecDepth 100000
open Go.RowKit

theorem made_ints (m : Nat) : madeCells #[.int .i64 0] m = ints (List.replicate m 0) := by
  unfold ints
  rw [List.map_replicate]
  apply Array.ext
  · simp [madeCells]
  · intro i h1 h2
    simp [madeCells, Nat.mod_one]
/-- So far filled. -/
def filled (n k : Nat) : List Int := List.replicate k 1073741824 ++ List.replicate (n + 1 - k) 0
theorem filled_length (n k : Nat) (h : k ≤ n + 1) : (filled n k).length = n + 1 := by simp [filled]; omega
theorem filled_set (n k : Nat) (h : k < n + 1) : (filled n k).set k 1073741824 = filled n (k + 1) := by
  unfold filled
  obtain ⟨m, hm⟩ : ∃ m, n + 1 - k = m + 1 := ⟨n - k, by omega⟩
  rw [List.set_append, List.length_replicate, if_neg (by omega), Nat.sub_self, hm, show n + 1 - (k + 1) = m by omega, List.replicate_succ, List.replicate_succ' (n := k)]
  simp
theorem filled_all (n : Nat) : filled n (n + 1) = List.replicate (n + 1) 1073741824 := by simp [filled]
theorem filled_none (n : Nat) : filled n 0 = List.replicate (n + 1) 0 := by simp [filled]

theorem blank_new (w : World) (n a b : Nat) (hab : (a = w.heap.size ∧ b = w.heap.size + 1) ∨ (a = w.heap.size + 1 ∧ b = w.heap.size)) :
    KnownAt ((((w.alloc (.cells (ints (List.replicate (n + 1) 0)) 3)).alloc (.cells (ints (List.replicate (n + 1) 0)) 3)).alloc (.cells #[.slice (some ⟨a, 0, none⟩) (n + 1) (n + 1), .slice (some ⟨b, 0, none⟩) (n + 1) (n + 1)] 141)).drew) (w.heap.size + 1 + 1) a b (n + 1) (n + 1) (filled n 0) (List.replicate (n + 1) 0) := by
  have h1 := heap_alloc_new w (.cells (ints (List.replicate (n + 1) 0)) 3)
  have h2 := heap_alloc_new (w.alloc (.cells (ints (List.replicate (n + 1) 0)) 3)) (.cells (ints (List.replicate (n + 1) 0)) 3)
  have h3 := heap_alloc_new ((w.alloc (.cells (ints (List.replicate (n + 1) 0)) 3)).alloc (.cells (ints (List.replicate (n + 1) 0)) 3)) (.cells #[.slice (some ⟨a, 0, none⟩) (n + 1) (n + 1), .slice (some ⟨b, 0, none⟩) (n + 1) (n + 1)] 141)
  have e1 : ∀ o1 : Obj, (w.alloc o1).heap.size = w.heap.size + 1 := fun o1 => by simp
  have e2 : ∀ o1 o2 : Obj, ((w.alloc o1).alloc o2).heap.size = w.heap.size + 1 + 1 := fun o1 o2 => by simp
  rw [e1] at h2
  rw [e2] at h3
  have r1 : ∀ o3 : Obj, (((w.alloc (.cells (ints (List.replicate (n + 1) 0)) 3)).alloc (.cells (ints (List.replicate (n + 1) 0)) 3)).alloc o3).heap[w.heap.size]? = some (.cells (ints (List.replicate (n + 1) 0)) 3) := fun o3 => by
    rw [Below.heap_alloc _ o3 _ (by rw [e2]; omega), Below.heap_alloc _ _ _ (by rw [e1]; omega)]; exact h1
  have r2 : ∀ o3 : Obj, (((w.alloc (.cells (ints (List.replicate (n + 1) 0)) 3)).alloc (.cells (ints (List.replicate (n + 1) 0)) 3)).alloc o3).heap[w.heap.size + 1]? = some (.cells (ints (List.replicate (n + 1) 0)) 3) := fun o3 => by
    rw [Below.heap_alloc _ o3 _ (by rw [e2]; omega)]; exact h2
  rw [filled_none]
  rcases hab with ⟨rfl, rfl⟩ | ⟨rfl, rfl⟩
  · exact ⟨by rw [List.length_replicate]; exact h3, r1 _, r2 _, by omega, by omega, by omega⟩
  · exact ⟨by rw [List.length_replicate]; exact h3, r2 _, r1 _, by omega, by omega, by omega⟩

set_option maxHeartbeats 1000000 in
theorem blank_calls (n at' : Nat) (w : World) (hn : n ≤ 64) (ha : at' ≤ n) :
    Calls Tryz.prog 104 #[.int .i64 n, .int .i64 at'] w fun e w' => Below w.heap.size w w' ∧ ∃ q gc gw cc cw, w.heap.size ≤ q ∧ w.heap.size ≤ gc ∧ w.heap.size ≤ gw ∧ e = .returned (.pointer (some ⟨q, 0, none⟩)) ∧
      KnownAt w' q gc gw cc cw ((List.replicate (n + 1) 1073741824).set at' 0) ((List.replicate (n + 1) 0).set at' 1) := by
  obtain ⟨i0, hi, hz0, hz1, hz2⟩ := info_parts infoInt
  have hmk : ∀ wx : World, (Instr.makeSlice 90 (.int .i64 ((n : Int) + 1)) (.int .i64 ((n : Int) + 1))).run Tryz.prog wx = .ok (.slice (some ⟨wx.heap.size, 0, none⟩) (n + 1) (n + 1)) (wx.alloc (.cells (ints (List.replicate (n + 1) 0)) 3)) := fun wx => by
    have h := run_make (P := Tryz.prog) (w := wx) 90 3 i0 (.int .i64 0) Tryz.underlying90 hi hz0 .i64 .i64 ((n : Int) + 1) ((n : Int) + 1) (by omega) (by omega) (by rw [hz2]; omega) (by omega)
    rw [hz1, Nat.mul_one, show ((n : Int) + 1).toNat = n + 1 by omega] at h
    rw [← made_ints]
    exact h
  have hwr : IntKind.i64.wrap ((n : Int) + 1) = (n : Int) + 1 := wrapEq _ (by omega)
  have hmk2 := hmk
  rw [← hwr] at hmk2
  have HN1 : Hid _ := blank_new w n (w.heap.size) (w.heap.size + 1) (.inl ⟨rfl, rfl⟩)
  have HN2 : Hid _ := blank_new w n (w.heap.size + 1) (w.heap.size) (.inr ⟨rfl, rfl⟩)
  go_enter Tryz.func104, Tryz.ntmps104
  go_wp2_with fail
  have hn0 : 0 ≤ (n : Int) + 1 ∧ (n : Int) + 1 ≤ 65 := by omega
  go_region
  · have HB : Hid (Below w.heap.size w ((((w.alloc (.cells (ints (List.replicate (n + 1) 0)) 3)).alloc (.cells (ints (List.replicate (n + 1) 0)) 3)).alloc (.cells #[.slice (some ⟨w.heap.size, 0, none⟩) (n + 1) (n + 1), .slice (some ⟨w.heap.size + 1, 0, none⟩) (n + 1) (n + 1)] 141)).drew)) := ((((Below.refl _ _).alloc (Nat.le_refl _) _).alloc (by simp) _).alloc (by simp; omega) _).drew
    have HK : Hid (KnownAt ((((w.alloc (.cells (ints (List.replicate (n + 1) 0)) 3)).alloc (.cells (ints (List.replicate (n + 1) 0)) 3)).alloc (.cells #[.slice (some ⟨w.heap.size, 0, none⟩) (n + 1) (n + 1), .slice (some ⟨w.heap.size + 1, 0, none⟩) (n + 1) (n + 1)] 141)).drew) (w.heap.size + 1 + 1) (w.heap.size) (w.heap.size + 1) (n + 1) (n + 1) (filled n 0) (List.replicate (n + 1) 0)) := HN1.out
    clear HN1 HN2 hmk hmk2 hi hz0 hz1 hz2
    generalize ((((w.alloc (.cells (ints (List.replicate (n + 1) 0)) 3)).alloc (.cells (ints (List.replicate (n + 1) 0)) 3)).alloc (.cells #[.slice (some ⟨w.heap.size, 0, none⟩) (n + 1) (n + 1), .slice (some ⟨w.heap.size + 1, 0, none⟩) (n + 1) (n + 1)] 141)).drew) = W at *
    go_wp2_with fail
    go_loopw [6] (fun i wr => ∃ k : Nat, k ≤ n + 1 ∧ i = .int .i64 k ∧ Hid (KnownAt wr (w.heap.size + 1 + 1) (w.heap.size) (w.heap.size + 1) (n + 1) (n + 1) (filled n k) (List.replicate (n + 1) 0)) ∧ Hid (Below w.heap.size w wr)) (fun i _ => n + 1 - (intOf i).toNat)
    case atStart => exact ⟨0, by omega, rfl, HK, HB⟩
    case round =>
      obtain ⟨k, hk, rfl, hkn, hb⟩ := hrel
      by_cases hlt : k ≤ n
      · obtain ⟨c0, c1, c2, c3, f2, f3⟩ := hkn.out.cells k (by rw [filled_length n k hk]; omega) (by simp; omega)
        rw [filled_length n k hk] at c0
        have HK2 : Hid (KnownAt (wr.setCell ⟨w.heap.size, k, none⟩ (.int .i64 1073741824)) (w.heap.size + 1 + 1) (w.heap.size) (w.heap.size + 1) (n + 1) (n + 1) (filled n (k + 1)) (List.replicate (n + 1) 0)) := by
          have := hkn.out.setC k 1073741824
          rw [filled_set n k (by omega)] at this
          exact this
        generalize (filled n k).getD k 0 = x at *
        clear c1 c3 f3
        have hix : 0 ≤ (k : Int) ∧ (k : Int) < ((n + 1 : Nat) : Int) := by omega
        go_wp2
        go_roundw
        case rel => exact ⟨k + 1, by omega, by go_num, HK2, hb.out.setCell (by simp only; omega) _⟩
        case measure => simp [intOf]; omega
      · have hke : k = n + 1 := by omega
        subst hke
        have HK0 : Hid (KnownAt wr (w.heap.size + 1 + 1) (w.heap.size) (w.heap.size + 1) (n + 1) (n + 1) (List.replicate (n + 1) 1073741824) (List.replicate (n + 1) 0)) := by
          have := hkn.out
          rw [filled_all] at this
          exact this
        clear hkn
        obtain ⟨c0, c1, c2, c3, f2, f3⟩ := HK0.out.cells at' (by simp; omega) (by simp; omega)
        obtain ⟨d0, d1, d2, d3, g2, g3⟩ := (HK0.out.setC at' 0).cells at' (by simp; omega) (by simp; omega)
        rw [List.length_replicate] at c0 d1
        generalize (List.replicate (n + 1) (1073741824 : Int)).getD at' 0 = x at *
        generalize (List.replicate (n + 1) (0 : Int)).getD at' 0 = y at *
        clear c1 c3 f3 d0 d2 g2
        have hix : 0 ≤ (at' : Int) ∧ (at' : Int) < ((n + 1 : Nat) : Int) := by omega
        go_wp2
        go_ret
        exact ⟨(hb.out.setCell (by simp only; omega) _).setCell (by simp only; omega) _, _, _, _, _, _, by omega, by omega, by omega, rfl, (HK0.out.setC at' 0).setW at' 1⟩
  · have HB : Hid (Below w.heap.size w ((((w.alloc (.cells (ints (List.replicate (n + 1) 0)) 3)).alloc (.cells (ints (List.replicate (n + 1) 0)) 3)).alloc (.cells #[.slice (some ⟨w.heap.size + 1, 0, none⟩) (n + 1) (n + 1), .slice (some ⟨w.heap.size, 0, none⟩) (n + 1) (n + 1)] 141)).drew)) := ((((Below.refl _ _).alloc (Nat.le_refl _) _).alloc (by simp) _).alloc (by simp; omega) _).drew
    have HK : Hid (KnownAt ((((w.alloc (.cells (ints (List.replicate (n + 1) 0)) 3)).alloc (.cells (ints (List.replicate (n + 1) 0)) 3)).alloc (.cells #[.slice (some ⟨w.heap.size + 1, 0, none⟩) (n + 1) (n + 1), .slice (some ⟨w.heap.size, 0, none⟩) (n + 1) (n + 1)] 141)).drew) (w.heap.size + 1 + 1) (w.heap.size + 1) (w.heap.size) (n + 1) (n + 1) (filled n 0) (List.replicate (n + 1) 0)) := HN2.out
    clear HN1 HN2 hmk hmk2 hi hz0 hz1 hz2
    generalize ((((w.alloc (.cells (ints (List.replicate (n + 1) 0)) 3)).alloc (.cells (ints (List.replicate (n + 1) 0)) 3)).alloc (.cells #[.slice (some ⟨w.heap.size + 1, 0, none⟩) (n + 1) (n + 1), .slice (some ⟨w.heap.size, 0, none⟩) (n + 1) (n + 1)] 141)).drew) = W at *
    go_wp2_with fail
    go_loopw [6] (fun i wr => ∃ k : Nat, k ≤ n + 1 ∧ i = .int .i64 k ∧ Hid (KnownAt wr (w.heap.size + 1 + 1) (w.heap.size + 1) (w.heap.size) (n + 1) (n + 1) (filled n k) (List.replicate (n + 1) 0)) ∧ Hid (Below w.heap.size w wr)) (fun i _ => n + 1 - (intOf i).toNat)
    case atStart => exact ⟨0, by omega, rfl, HK, HB⟩
    case round =>
      obtain ⟨k, hk, rfl, hkn, hb⟩ := hrel
      by_cases hlt : k ≤ n
      · obtain ⟨c0, c1, c2, c3, f2, f3⟩ := hkn.out.cells k (by rw [filled_length n k hk]; omega) (by simp; omega)
        rw [filled_length n k hk] at c0
        have HK2 : Hid (KnownAt (wr.setCell ⟨w.heap.size + 1, k, none⟩ (.int .i64 1073741824)) (w.heap.size + 1 + 1) (w.heap.size + 1) (w.heap.size) (n + 1) (n + 1) (filled n (k + 1)) (List.replicate (n + 1) 0)) := by
          have := hkn.out.setC k 1073741824
          rw [filled_set n k (by omega)] at this
          exact this
        generalize (filled n k).getD k 0 = x at *
        clear c1 c3 f3
        have hix : 0 ≤ (k : Int) ∧ (k : Int) < ((n + 1 : Nat) : Int) := by omega
        go_wp2
        go_roundw
        case rel => exact ⟨k + 1, by omega, by go_num, HK2, hb.out.setCell (by simp only; omega) _⟩
        case measure => simp [intOf]; omega
      · have hke : k = n + 1 := by omega
        subst hke
        have HK0 : Hid (KnownAt wr (w.heap.size + 1 + 1) (w.heap.size + 1) (w.heap.size) (n + 1) (n + 1) (List.replicate (n + 1) 1073741824) (List.replicate (n + 1) 0)) := by
          have := hkn.out
          rw [filled_all] at this
          exact this
        clear hkn
        obtain ⟨c0, c1, c2, c3, f2, f3⟩ := HK0.out.cells at' (by simp; omega) (by simp; omega)
        obtain ⟨d0, d1, d2, d3, g2, g3⟩ := (HK0.out.setC at' 0).cells at' (by simp; omega) (by simp; omega)
        rw [List.length_replicate] at c0 d1
        generalize (List.replicate (n + 1) (1073741824 : Int)).getD at' 0 = x at *
        generalize (List.replicate (n + 1) (0 : Int)).getD at' 0 = y at *
        clear c1 c3 f3 d0 d2 g2
        have hix : 0 ≤ (at' : Int) ∧ (at' : Int) < ((n + 1 : Nat) : Int) := by omega
        go_wp2
        go_ret
        exact ⟨(hb.out.setCell (by simp only; omega) _).setCell (by simp only; omega) _, _, _, _, _, _, by omega, by omega, by omega, rfl, (HK0.out.setC at' 0).setW at' 1⟩
end Go.Proofs.YtnpnaglgllcpfaaGreat
