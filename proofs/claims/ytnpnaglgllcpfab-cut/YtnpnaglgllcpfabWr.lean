/-
  What the program's Writer does to memory, method by method: the bits that it holds.
-/
import Derived.Test.YtnpnaglgllcpfabWrPlain
import Derived.Test.YtnpnaglgllcpfabMk
import Derived.Deep.AppendLies
import Derived.Deep.RegionLaw
namespace Go.Proofs.Ytnpnaglgllcpfab
set_option maxRecDepth 100000
open Go.RowKit

/-- The Writer in block q holds the bits L; its full bytes lie in the slice v, its own (from block B on). -/
structure WrAt (w : World) (q B : Nat) (v : Value) (L : List Bool) : Prop where
  block : w.heap[q]? = some (.cells #[v, .int .i64 (valB (wrun L).2), .int .i64 (wrun L).2.length] 64 (0, 0))
  own : OwnB w B v (wrun L).1

/-- What was there is there, but for the Writer's block and its bytes'. -/
structure WrKept (w w' : World) (q : Nat) (v v' : Value) : Prop where
  os : w'.os = w.os
  tape : w'.tape = w.tape
  output : w'.output = w.output
  size : w.heap.size ≤ w'.heap.size
  heap : ∀ k, k < w.heap.size → k ≠ q → v.ownBlock ≠ some k → w'.heap[k]? = w.heap[k]?
  moved : ∀ k, v'.ownBlock = some k → v.ownBlock = some k ∨ w.heap.size ≤ k

theorem WrKept.refl (w : World) (q : Nat) (v : Value) : WrKept w w q v v := ⟨rfl, rfl, rfl, Nat.le_refl _, fun _ _ _ _ => rfl, fun _ h => .inl h⟩
theorem WrKept.trans {w w1 w2 : World} {q : Nat} {v v1 v2 : Value} (h : WrKept w w1 q v v1) (k : WrKept w1 w2 q v1 v2) : WrKept w w2 q v v2 := by
  refine ⟨k.os.trans h.os, k.tape.trans h.tape, k.output.trans h.output, Nat.le_trans h.size k.size, fun i hi hq hv => ?_, fun i hi => ?_⟩
  · rw [k.heap i (Nat.lt_of_lt_of_le hi h.size) hq (fun e => ?_)]
    · exact h.heap i hi hq hv
    · rcases h.moved i e with h1 | h1
      · exact hv h1
      · omega
  · rcases k.moved i hi with h1 | h1
    · exact h.moved i h1
    · exact .inr (Nat.le_trans h.size h1)
theorem WrKept.below {w w' : World} {q B : Nat} {v v' : Value} (h : WrKept w w' q v v') (hq : B ≤ q) (hB : B ≤ w.heap.size) (hv : ∀ k, v.ownBlock = some k → B ≤ k) : Below B w w' :=
  ⟨h.os, h.tape, h.output, h.size, fun k hk => h.heap k (by omega) (by omega) (fun e => by have := hv k e; omega)⟩
theorem WrKept.alloc {w w' : World} {q : Nat} {v v' : Value} (h : WrKept w w' q v v') (o : Obj) : WrKept w (w'.alloc o) q v v' :=
  ⟨h.os, h.tape, h.output, by have := h.size; simp; omega, fun k hk hq hv => by rw [Below.heap_alloc w' o k (Nat.lt_of_lt_of_le hk h.size)]; exact h.heap k hk hq hv, h.moved⟩
theorem WrKept.ofBelow {w w' : World} {q : Nat} {v : Value} (h : Below w.heap.size w w') : WrKept w w' q v v :=
  ⟨h.os, h.tape, h.output, h.size, fun k hk _ _ => h.block k hk, fun _ h => .inl h⟩

theorem WrAt.lt {w : World} {q B : Nat} {v : Value} {L : List Bool} (h : WrAt w q B v L) : q < w.heap.size := (Array.getElem?_eq_some_iff.1 h.block).1
theorem WrAt.below {w w' : World} {q B : Nat} {v : Value} {L : List Bool} (h : WrAt w q B v L) (hb : Below w.heap.size w w') : WrAt w' q B v L :=
  ⟨by rw [hb.block q h.lt]; exact h.block, h.own.below hb⟩
theorem WrAt.alloc {w : World} {q B : Nat} {v : Value} {L : List Bool} (h : WrAt w q B v L) (o : Obj) : WrAt (w.alloc o) q B v L :=
  ⟨by rw [Below.heap_alloc w o q h.lt]; exact h.block, h.own.alloc o⟩
theorem WrAt.ne {w : World} {q B : Nat} {v : Value} {L : List Bool} (h : WrAt w q B v L) : v.ownBlock ≠ some q := by
  rcases h.own.2 with ⟨rfl, _⟩ | ⟨g, cap, cur, rfl, _, hg, _⟩
  · simp [Value.ownBlock]
  · intro e
    simp [Value.ownBlock] at e
    subst e
    rw [h.block] at hg
    simp at hg

theorem trio_cell {w : World} {q : Nat} {a b c : Value} {t : TypeId} (h : w.heap[q]? = some (.cells #[a, b, c] t (0, 0))) :
    (w.cell? ⟨q, 0, none⟩ = some a ∧ w.cell? ⟨q, 1, none⟩ = some b ∧ w.cell? ⟨q, 2, none⟩ = some c) ∧ (w.frozen? ⟨q, 0, none⟩ = false ∧ w.frozen? ⟨q, 1, none⟩ = false ∧ w.frozen? ⟨q, 2, none⟩ = false) := by
  simp [World.cell?, World.frozen?, h]
theorem set_block {w : World} {q i : Nat} {cs : Array Value} {t : TypeId} {m : Nat × Nat} (h : w.heap[q]? = some (.cells cs t m)) (u : Value) :
    (w.setCell ⟨q, i, none⟩ u).heap[q]? = some (.cells (cs.setIfInBounds i u) t m) := by
  have hlt := (Array.getElem?_eq_some_iff.1 h).1
  have h' : w.heap[q] = .cells cs t m := (Array.getElem?_eq_some_iff.1 h).2
  show (w.heap.modify q _)[q]? = _
  rw [Array.getElem?_eq_getElem (by simpa using hlt), Array.getElem_modify_self, h']
  simp
theorem set_other {w : World} {q i k : Nat} (u : Value) (h : k ≠ q) : (w.setCell ⟨q, i, none⟩ u).heap[k]? = w.heap[k]? := Below.heap_setCell _ _ _ _ h
theorem set_size (w : World) (a : Addr) (u : Value) : (w.setCell a u).heap.size = w.heap.size := by simp [World.setCell]
theorem OwnB.set {w : World} {B : Nat} {v : Value} {out : List UInt8} (h : OwnB w B v out) {q i : Nat} (u : Value) (hne : v.ownBlock ≠ some q) : OwnB (w.setCell ⟨q, i, none⟩ u) B v out := by
  refine ⟨h.1, ?_⟩
  rcases h.2 with hn | ⟨g, cap, cur, rfl, hb, hg, r⟩
  · exact .inl hn
  · refine .inr ⟨g, cap, cur, rfl, hb, ?_, r⟩
    rw [set_other u (by intro e; exact hne (by simp [Value.ownBlock, e]))]
    exact hg

theorem grown_block {w w2 : World} {q : Nat} {o x : Obj} {v : Value} (h : w.heap[q]? = some x) (hg : (w.alloc o).drew.grownBy w2 v.ownBlock) (hne : v.ownBlock ≠ some q) : w2.heap[q]? = some x := by
  have hlt := (Array.getElem?_eq_some_iff.1 h).1
  rw [hg.block q (by show q < (w.alloc o).heap.size; simp; omega) (fun e => hne e.symm)]
  show (w.alloc o).heap[q]? = _
  rw [Below.heap_alloc w o q hlt]; exact h

theorem bit_done {w w1 w2 : World} {q B g cap : Nat} {v : Value} {L : List Bool} {c : Int} {m : Nat} {o : Obj} (hk1 : WrKept w w1 q v v) (hne : v.ownBlock ≠ some q) (hq1 : q < w1.heap.size)
    (hb1 : w1.heap[q]? = some (.cells #[v, .int .i64 ((m : Int) * 2 + c), .int .i64 8] 64 (0, 0)))
    (hS : wrun (L ++ [decide (c = 1)]) = ((wrun L).1 ++ [UInt8.ofNat (valB ((wrun L).2 ++ [decide (c = 1)]))], []))
    (hV : (valB ((wrun L).2 ++ [decide (c = 1)]) : Int) = 2 * (m : Int) + c) (hm : m < 128) (h0 : 0 ≤ c) (h1 : c ≤ 1)
    (hown : w2.ownsRow B 5 1 (.slice (some ⟨g, 0, none⟩) ((wrun L).1.length + 1) cap) ((wrun L).1.length + 1) (cellsB (wrun L).1 ++ [.int .u8 (IntKind.u8.wrap ((m : Int) * 2 + c))]))
    (hgrow : (w1.alloc o).drew.grownBy w2 v.ownBlock) (hat : v.ownBlock = some g ∨ g = (w1.alloc o).drew.heap.size) :
    ∃ v', WrAt (((w2.setCell ⟨q, 0, none⟩ (.slice (some ⟨g, 0, none⟩) ((wrun L).1.length + 1) cap)).setCell ⟨q, 1, none⟩ (.int .i64 0)).setCell ⟨q, 2, none⟩ (.int .i64 0)) q B v' (L ++ [decide (c = 1)]) ∧
      WrKept w (((w2.setCell ⟨q, 0, none⟩ (.slice (some ⟨g, 0, none⟩) ((wrun L).1.length + 1) cap)).setCell ⟨q, 1, none⟩ (.int .i64 0)).setCell ⟨q, 2, none⟩ (.int .i64 0)) q v v' := by
  have hb2 := grown_block hb1 hgrow hne
  have hz : (w1.alloc o).drew.heap.size = w1.heap.size + 1 := by show (w1.alloc o).heap.size = _; simp
  rw [hz] at hat
  have hs2 : w1.heap.size + 1 ≤ w2.heap.size := by have := hgrow.size; rw [hz] at this; exact this
  have hgq : g ≠ q := by
    intro e
    rcases hat with h | h
    · exact hne (by rw [h, e])
    · omega
  have hng : (Value.slice (some ⟨g, 0, none⟩) ((wrun L).1.length + 1) cap).ownBlock ≠ some q := by simp [Value.ownBlock, hgq]
  refine ⟨.slice (some ⟨g, 0, none⟩) ((wrun L).1.length + 1) cap, ⟨?_, ?_⟩, ?_⟩
  · rw [set_block (set_block (set_block hb2 _) _), hS]
    rfl
  · rw [hS]
    have e5 : ((UInt8.ofNat (valB ((wrun L).2 ++ [decide (c = 1)]))).toNat : Int) = IntKind.u8.wrap ((m : Int) * 2 + c) := by
      rw [IntWalk.u8_in _ ⟨by omega, by omega⟩]
      simp
      omega
    have ho : OwnB w2 B (.slice (some ⟨g, 0, none⟩) ((wrun L).1.length + 1) cap) ((wrun L).1 ++ [UInt8.ofNat (valB ((wrun L).2 ++ [decide (c = 1)]))]) := by
      unfold OwnB
      rw [cellsB_snoc, e5, List.length_append]
      exact hown
    exact ((ho.set _ hng).set _ hng).set _ hng
  · refine ⟨hgrow.os.trans hk1.os, hgrow.tape.trans hk1.tape, hgrow.output.trans hk1.output, ?_, fun k hk hkq hkv => ?_, fun k hk => ?_⟩
    · have := hk1.size
      simp only [set_size]
      omega
    · have h1' := hk1.size
      rw [set_other _ hkq, set_other _ hkq, set_other _ hkq, hgrow.block k (by rw [hz]; omega) (fun e => hkv e.symm)]
      show (w1.alloc o).heap[k]? = _
      rw [Below.heap_alloc w1 o k (by omega)]
      exact hk1.heap k hk hkq hkv
    · simp [Value.ownBlock] at hk
      subst hk
      have h1' := hk1.size
      rcases hat with h | h
      · exact .inl h
      · exact .inr (by omega)

set_option maxHeartbeats 1000000 in
theorem bit_calls (q B : Nat) (v : Value) (L : List Bool) (c : Int) (w : World) (h : WrAt w q B v L) (hB : B ≤ w.heap.size) (hl : L.length ≤ 100000000) (hc0 : 0 ≤ c) (hc1 : c ≤ 1) :
    Calls Try.prog 68 #[.pointer (some ⟨q, 0, none⟩), .int .i64 c] w fun e w' => e = .returned (.tuple #[]) ∧ ∃ v', WrAt w' q B v' (L ++ [decide (c = 1)]) ∧ WrKept w w' q v v' := by
  obtain ⟨i0, hi, hz0, hz1, hz2⟩ := info_parts info8
  have hinv := wrun_inv L
  have hne := h.ne
  have hq := h.lt
  obtain ⟨⟨c0, c1, c2⟩, f0, f1, f2⟩ := trio_cell h.block
  have hval : valB (wrun L).2 < 128 := valB_lt8 _ hinv.1
  have HW : Hid (WrAt w q B v L) := h
  have HS : Hid (wrun (L ++ [decide (c = 1)]) = wstep (wrun L) (decide (c = 1))) := wrun_snoc L _
  have HV : Hid ((valB ((wrun L).2 ++ [decide (c = 1)]) : Int) = 2 * (valB (wrun L).2 : Int) + c) := by
    show _ = _
    rw [valB_snoc]
    rcases (show c = 0 ∨ c = 1 by omega) with rfl | rfl <;> simp
  have HNE : Hid (v.ownBlock ≠ some q) := hne
  clear h hne
  by_cases h7 : (wrun L).2.length = 7
  · have HS2 : Hid (wrun (L ++ [decide (c = 1)]) = ((wrun L).1 ++ [UInt8.ofNat (valB ((wrun L).2 ++ [decide (c = 1)]))], [])) := by show _ = _; rw [HS.out]; exact if_pos h7
    have hlen : (wrun L).1.length ≤ 100000000 := by omega
    rw [h7] at c2
    clear HS h7
    generalize hm : valB (wrun L).2 = m at *
    have HM : Hid _ := hm
    clear hm hinv
    obtain ⟨ao, cp, rfl⟩ := HW.out.own.form
    go_enter Try.func68, Try.ntmps68
    go_wp2
    have hb1 := set_block (i := 2) (set_block (i := 1) HW.out.block (.int .i64 ((m : Int) * 2 + c))) (.int .i64 8)
    have ho1 : OwnB _ B _ _ := (HW.out.own.set (i := 1) (.int .i64 ((m : Int) * 2 + c)) HNE.out).set (i := 2) (.int .i64 8) HNE.out
    have hk1 : WrKept w ((w.setCell ⟨q, 1, none⟩ (.int .i64 ((m : Int) * 2 + c))).setCell ⟨q, 2, none⟩ (.int .i64 8)) q (.slice ao (wrun L).1.length cp) (.slice ao (wrun L).1.length cp) :=
      ⟨rfl, rfl, rfl, by simp, fun k _ hk _ => by rw [set_other _ hk, set_other _ hk], fun _ h => .inl h⟩
    generalize (w.setCell ⟨q, 1, none⟩ (.int .i64 ((m : Int) * 2 + c))).setCell ⟨q, 2, none⟩ (.int .i64 8) = w1 at *
    simp at hb1
    have hs1 := hk1.size
    have hq1 : q < w1.heap.size := by omega
    have HB1 : Hid _ := hb1
    have HO1 : Hid (OwnB w1 B (.slice ao (wrun L).1.length cp) (wrun L).1) := ho1
    obtain ⟨⟨d0, d1, d2⟩, g0, g1, g2⟩ := trio_cell hb1
    clear hb1 ho1 c0 c1 c2 f0 f1 f2
    go_region_law (refine step_append_lies _ rfl (.tmp 30) (.tmp 36) 22 rfl B 5 i0 (.int .u8 0) 1 1 Try.underlying22 hi hz0 hz1 hz2 rfl (by decide) (.slice ao (wrun L).1.length cp) _ _ (by simp [Act.eval]) (by exact HO1.out.alloc _) ⟨w1.heap.size, 0, none⟩ 1 1 [.int .u8 (IntKind.u8.wrap ((m : Int) * 2 + c))] (by simp [Act.eval]) rfl (by intro j u hj; exact cell_new1 _ _ _ j u hj) (by intro u hu; simp at hu; subst hu; rfl) (by decide) (by unfold maxLen; omega) (by omega) (by simp; omega) _ rfl ?_; intro g cap w2 hown2 hgrow2 hat hlt2; have hb2 := grown_block HB1.out hgrow2 HNE.out; obtain ⟨⟨k0, k1, k2⟩, l0, l1, l2⟩ := trio_cell hb2; clear hb2)
    all_goals
      clear d0 d1 d2 g0 g1 g2
      go_wp2
      go_end0
      exact ⟨rfl, bit_done hk1 HNE.out hq1 HB1.out HS2.out HV.out hval hc0 hc1 hown2 hgrow2 hat⟩
  · have h7' : (wrun L).2.length < 7 := by omega
    have HS2 : Hid (wrun (L ++ [decide (c = 1)]) = ((wrun L).1, (wrun L).2 ++ [decide (c = 1)])) := by show _ = _; rw [HS.out]; exact if_neg h7
    clear HS h7
    generalize hn : (wrun L).2.length = n at *
    generalize hm : valB (wrun L).2 = m at *
    have HN : Hid _ := hn
    have HM : Hid _ := hm
    clear hn hm
    go_enter Try.func68, Try.ntmps68
    go_wp2
    go_end0
    refine ⟨rfl, v, ⟨?_, ?_⟩, ?_⟩
    · rw [set_block (set_block HW.out.block _), HS2.out]
      have e1 : (m : Int) * 2 + c = (valB ((wrun L).2 ++ [decide (c = 1)]) : Int) := by rw [HV.out]; omega
      have e2 : (n : Int) + 1 = (((wrun L).2 ++ [decide (c = 1)]).length : Int) := by rw [← HN.out]; simp
      rw [e1, e2]; rfl
    · rw [HS2.out]
      exact (HW.out.own.set _ HNE.out).set _ HNE.out
    · exact ⟨rfl, rfl, rfl, by simp, fun k _ hk _ => by rw [set_other _ hk, set_other _ hk], fun _ h => .inl h⟩
end Go.Proofs.Ytnpnaglgllcpfab
