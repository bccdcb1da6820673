/-
  Lemmas for the law All: Wr, Wr2, Sum.
-/
import Derived.Test.YtnpnaglgllcpfaaGreatM01
import Derived.Deep.AppendLies
import Derived.Deep.RegionLaw
import Derived.Deep.LoopGhost
import Derived.Test.YtnpnaglgllcpfaaGreatRows
import Derived.WalkKit
import Derived.ProofKit
import Derived.OpenShut
import Derived.ShutString
import Derived.ChangeOld
import Derived.Below
import Derived.Carry
import Derived.Laws.IdiomStrings
import Derived.Handy
import Derived.SizedLaws
import Derived.Outline
/- What the program's Writer does to memory, method by method: the bits that it holds. -/
namespace Go.Proofs.YtnpnaglgllcpfaaGreat
set_option maxRecDepth 100000
open Go.RowKit

/-- The Writer in block q holds the bits L; its full bytes lie in the slice v, its own (from block B on). -/
structure WrAt (w : World) (q B : Nat) (v : Value) (L : List Bool) : Prop where
  block : w.heap[q]? = some (.cells #[v, .int .i64 (valB (wrun L).2), .int .i64 (wrun L).2.length] 115 (0, 0))
  own : OwnB w B v (wrun L).1

/-- What was there is there, but for the Writer's block and its bytes'. -/
structure WrKept (w w' : World) (q : Nat) (v v' : Value) : Prop where
  os : w'.os = w.os
  tape : w'.tape = w.tape
  output : w'.output = w.output
  size : w.heap.size ≤ w'.heap.size
  heap : ∀ k, k < w.heap.size → k ≠ q → v.ownBlock ≠ some k → w'.heap[k]? = w.heap[k]?
  moved : ∀ k, v'.ownBlock = some k → v.ownBlock = some k ∨ w.heap.size ≤ k

theorem WrKept.refl (w : World) (q : Nat) (v : Value) : WrKept w w q v v := ⟨rfl, rfl, rfl, Nat.le_refl _, fun _ _ _ _ => rfl, fun _ h => .inl h⟩
theorem WrKept.trans {w w1 w2 : World} {q : Nat} {v v1 v2 : Value} (h : WrKept w w1 q v v1) (k : WrKept w1 w2 q v1 v2) : WrKept w w2 q v v2 := by
  refine ⟨k.os.trans h.os, k.tape.trans h.tape, k.output.trans h.output, Nat.le_trans h.size k.size, fun i hi hq hv => ?_, fun i hi => ?_⟩
  · rw [k.heap i (Nat.lt_of_lt_of_le hi h.size) hq (fun e => ?_)]
    · exact h.heap i hi hq hv
    · rcases h.moved i e with h1 | h1
      · exact hv h1
      · omega
  · rcases k.moved i hi with h1 | h1
    · exact h.moved i h1
    · exact .inr (Nat.le_trans h.size h1)
theorem WrKept.below {w w' : World} {q B : Nat} {v v' : Value} (h : WrKept w w' q v v') (hq : B ≤ q) (hB : B ≤ w.heap.size) (hv : ∀ k, v.ownBlock = some k → B ≤ k) : Below B w w' :=
  ⟨h.os, h.tape, h.output, h.size, fun k hk => h.heap k (by omega) (by omega) (fun e => by have := hv k e; omega)⟩
theorem WrKept.alloc {w w' : World} {q : Nat} {v v' : Value} (h : WrKept w w' q v v') (o : Obj) : WrKept w (w'.alloc o) q v v' :=
  ⟨h.os, h.tape, h.output, by have := h.size; simp; omega, fun k hk hq hv => by rw [Below.heap_alloc w' o k (Nat.lt_of_lt_of_le hk h.size)]; exact h.heap k hk hq hv, h.moved⟩
theorem WrKept.ofBelow {w w' : World} {q : Nat} {v : Value} (h : Below w.heap.size w w') : WrKept w w' q v v :=
  ⟨h.os, h.tape, h.output, h.size, fun k hk _ _ => h.block k hk, fun _ h => .inl h⟩

theorem WrAt.lt {w : World} {q B : Nat} {v : Value} {L : List Bool} (h : WrAt w q B v L) : q < w.heap.size := (Array.getElem?_eq_some_iff.1 h.block).1
theorem WrAt.below {w w' : World} {q B : Nat} {v : Value} {L : List Bool} (h : WrAt w q B v L) (hb : Below w.heap.size w w') : WrAt w' q B v L :=
  ⟨by rw [hb.block q h.lt]; exact h.block, h.own.below hb⟩
theorem WrAt.alloc {w : World} {q B : Nat} {v : Value} {L : List Bool} (h : WrAt w q B v L) (o : Obj) : WrAt (w.alloc o) q B v L :=
  ⟨by rw [Below.heap_alloc w o q h.lt]; exact h.block, h.own.alloc o⟩
theorem WrAt.ne {w : World} {q B : Nat} {v : Value} {L : List Bool} (h : WrAt w q B v L) : v.ownBlock ≠ some q := by
  rcases h.own.2 with ⟨rfl, _⟩ | ⟨g, cap, cur, rfl, _, hg, _⟩
  · simp [Value.ownBlock]
  · intro e
    simp [Value.ownBlock] at e
    subst e
    rw [h.block] at hg
    simp at hg

theorem trio_cell {w : World} {q : Nat} {a b c : Value} {t : TypeId} (h : w.heap[q]? = some (.cells #[a, b, c] t (0, 0))) :
    (w.cell? ⟨q, 0, none⟩ = some a ∧ w.cell? ⟨q, 1, none⟩ = some b ∧ w.cell? ⟨q, 2, none⟩ = some c) ∧ (w.frozen? ⟨q, 0, none⟩ = false ∧ w.frozen? ⟨q, 1, none⟩ = false ∧ w.frozen? ⟨q, 2, none⟩ = false) := by
  simp [World.cell?, World.frozen?, h]
theorem set_block {w : World} {q i : Nat} {cs : Array Value} {t : TypeId} {m : Nat × Nat} (h : w.heap[q]? = some (.cells cs t m)) (u : Value) :
    (w.setCell ⟨q, i, none⟩ u).heap[q]? = some (.cells (cs.setIfInBounds i u) t m) := by
  have hlt := (Array.getElem?_eq_some_iff.1 h).1
  have h' : w.heap[q] = .cells cs t m := (Array.getElem?_eq_some_iff.1 h).2
  show (w.heap.modify q _)[q]? = _
  rw [Array.getElem?_eq_getElem (by simpa using hlt), Array.getElem_modify_self, h']
  simp
theorem set_other {w : World} {q i k : Nat} (u : Value) (h : k ≠ q) : (w.setCell ⟨q, i, none⟩ u).heap[k]? = w.heap[k]? := Below.heap_setCell _ _ _ _ h
theorem set_size (w : World) (a : Addr) (u : Value) : (w.setCell a u).heap.size = w.heap.size := by simp [World.setCell]
theorem OwnB.set {w : World} {B : Nat} {v : Value} {out : List UInt8} (h : OwnB w B v out) {q i : Nat} (u : Value) (hne : v.ownBlock ≠ some q) : OwnB (w.setCell ⟨q, i, none⟩ u) B v out := by
  refine ⟨h.1, ?_⟩
  rcases h.2 with hn | ⟨g, cap, cur, rfl, hb, hg, r⟩
  · exact .inl hn
  · refine .inr ⟨g, cap, cur, rfl, hb, ?_, r⟩
    rw [set_other u (by intro e; exact hne (by simp [Value.ownBlock, e]))]
    exact hg

theorem grown_block {w w2 : World} {q : Nat} {o x : Obj} {v : Value} (h : w.heap[q]? = some x) (hg : (w.alloc o).drew.grownBy w2 v.ownBlock) (hne : v.ownBlock ≠ some q) : w2.heap[q]? = some x := by
  have hlt := (Array.getElem?_eq_some_iff.1 h).1
  rw [hg.block q (by show q < (w.alloc o).heap.size; simp; omega) (fun e => hne e.symm)]
  show (w.alloc o).heap[q]? = _
  rw [Below.heap_alloc w o q hlt]; exact h

theorem bit_done {w w1 w2 : World} {q B g cap : Nat} {v : Value} {L : List Bool} {c : Int} {m : Nat} {o : Obj} (hk1 : WrKept w w1 q v v) (hne : v.ownBlock ≠ some q) (hq1 : q < w1.heap.size)
    (hb1 : w1.heap[q]? = some (.cells #[v, .int .i64 ((m : Int) * 2 + c), .int .i64 8] 115 (0, 0)))
    (hS : wrun (L ++ [decide (c = 1)]) = ((wrun L).1 ++ [UInt8.ofNat (valB ((wrun L).2 ++ [decide (c = 1)]))], []))
    (hV : (valB ((wrun L).2 ++ [decide (c = 1)]) : Int) = 2 * (m : Int) + c) (hm : m < 128) (h0 : 0 ≤ c) (h1 : c ≤ 1)
    (hown : w2.ownsRow B 5 1 (.slice (some ⟨g, 0, none⟩) ((wrun L).1.length + 1) cap) ((wrun L).1.length + 1) (cellsB (wrun L).1 ++ [.int .u8 (IntKind.u8.wrap ((m : Int) * 2 + c))]))
    (hgrow : (w1.alloc o).drew.grownBy w2 v.ownBlock) (hat : v.ownBlock = some g ∨ g = (w1.alloc o).drew.heap.size) :
    ∃ v', WrAt (((w2.setCell ⟨q, 0, none⟩ (.slice (some ⟨g, 0, none⟩) ((wrun L).1.length + 1) cap)).setCell ⟨q, 1, none⟩ (.int .i64 0)).setCell ⟨q, 2, none⟩ (.int .i64 0)) q B v' (L ++ [decide (c = 1)]) ∧
      WrKept w (((w2.setCell ⟨q, 0, none⟩ (.slice (some ⟨g, 0, none⟩) ((wrun L).1.length + 1) cap)).setCell ⟨q, 1, none⟩ (.int .i64 0)).setCell ⟨q, 2, none⟩ (.int .i64 0)) q v v' := by
  have hb2 := grown_block hb1 hgrow hne
  have hz : (w1.alloc o).drew.heap.size = w1.heap.size + 1 := by show (w1.alloc o).heap.size = _; simp
  rw [hz] at hat
  have hs2 : w1.heap.size + 1 ≤ w2.heap.size := by have := hgrow.size; rw [hz] at this; exact this
  have hgq : g ≠ q := by
    intro e
    rcases hat with h | h
    · exact hne (by rw [h, e])
    · omega
  have hng : (Value.slice (some ⟨g, 0, none⟩) ((wrun L).1.length + 1) cap).ownBlock ≠ some q := by simp [Value.ownBlock, hgq]
  refine ⟨.slice (some ⟨g, 0, none⟩) ((wrun L).1.length + 1) cap, ⟨?_, ?_⟩, ?_⟩
  · rw [set_block (set_block (set_block hb2 _) _), hS]
    rfl
  · rw [hS]
    have e5 : ((UInt8.ofNat (valB ((wrun L).2 ++ [decide (c = 1)]))).toNat : Int) = IntKind.u8.wrap ((m : Int) * 2 + c) := by
      rw [IntWalk.u8_in _ ⟨by omega, by omega⟩]
      simp
      omega
    have ho : OwnB w2 B (.slice (some ⟨g, 0, none⟩) ((wrun L).1.length + 1) cap) ((wrun L).1 ++ [UInt8.ofNat (valB ((wrun L).2 ++ [decide (c = 1)]))]) := by
      unfold OwnB
      rw [cellsB_snoc, e5, List.length_append]
      exact hown
    exact ((ho.set _ hng).set _ hng).set _ hng
  · refine ⟨hgrow.os.trans hk1.os, hgrow.tape.trans hk1.tape, hgrow.output.trans hk1.output, ?_, fun k hk hkq hkv => ?_, fun k hk => ?_⟩
    · have := hk1.size
      simp only [set_size]
      omega
    · have h1' := hk1.size
      rw [set_other _ hkq, set_other _ hkq, set_other _ hkq, hgrow.block k (by rw [hz]; omega) (fun e => hkv e.symm)]
      show (w1.alloc o).heap[k]? = _
      rw [Below.heap_alloc w1 o k (by omega)]
      exact hk1.heap k hk hkq hkv
    · simp [Value.ownBlock] at hk
      subst hk
      have h1' := hk1.size
      rcases hat with h | h
      · exact .inl h
      · exact .inr (by omega)

set_option maxHeartbeats 1000000 in
theorem bit_calls (q B : Nat) (v : Value) (L : List Bool) (c : Int) (w : World) (h : WrAt w q B v L) (hB : B ≤ w.heap.size) (hl : L.length ≤ 100000000) (hc0 : 0 ≤ c) (hc1 : c ≤ 1) :
    Calls Tryz.prog 114 #[.pointer (some ⟨q, 0, none⟩), .int .i64 c] w fun e w' => e = .returned (.tuple #[]) ∧ ∃ v', WrAt w' q B v' (L ++ [decide (c = 1)]) ∧ WrKept w w' q v v' := by
  obtain ⟨i0, hi, hz0, hz1, hz2⟩ := info_parts info8
  have hinv := wrun_inv L
  have hne := h.ne
  have hq := h.lt
  obtain ⟨⟨c0, c1, c2⟩, f0, f1, f2⟩ := trio_cell h.block
  have hval : valB (wrun L).2 < 128 := valB_lt8 _ hinv.1
  have HW : Hid (WrAt w q B v L) := h
  have HS : Hid (wrun (L ++ [decide (c = 1)]) = wstep (wrun L) (decide (c = 1))) := wrun_snoc L _
  have HV : Hid ((valB ((wrun L).2 ++ [decide (c = 1)]) : Int) = 2 * (valB (wrun L).2 : Int) + c) := by
    show _ = _
    rw [valB_snoc]
    rcases (show c = 0 ∨ c = 1 by omega) with rfl | rfl <;> simp
  have HNE : Hid (v.ownBlock ≠ some q) := hne
  clear h hne
  by_cases h7 : (wrun L).2.length = 7
  · have HS2 : Hid (wrun (L ++ [decide (c = 1)]) = ((wrun L).1 ++ [UInt8.ofNat (valB ((wrun L).2 ++ [decide (c = 1)]))], [])) := by show _ = _; rw [HS.out]; exact if_pos h7
    have hlen : (wrun L).1.length ≤ 100000000 := by omega
    rw [h7] at c2
    clear HS h7
    generalize hm : valB (wrun L).2 = m at *
    have HM : Hid _ := hm
    clear hm hinv
    obtain ⟨ao, cp, rfl⟩ := HW.out.own.form
    go_enter Tryz.func114, Tryz.ntmps114
    go_wp2
    have hb1 := set_block (i := 2) (set_block (i := 1) HW.out.block (.int .i64 ((m : Int) * 2 + c))) (.int .i64 8)
    have ho1 : OwnB _ B _ _ := (HW.out.own.set (i := 1) (.int .i64 ((m : Int) * 2 + c)) HNE.out).set (i := 2) (.int .i64 8) HNE.out
    have hk1 : WrKept w ((w.setCell ⟨q, 1, none⟩ (.int .i64 ((m : Int) * 2 + c))).setCell ⟨q, 2, none⟩ (.int .i64 8)) q (.slice ao (wrun L).1.length cp) (.slice ao (wrun L).1.length cp) :=
      ⟨rfl, rfl, rfl, by simp, fun k _ hk _ => by rw [set_other _ hk, set_other _ hk], fun _ h => .inl h⟩
    generalize (w.setCell ⟨q, 1, none⟩ (.int .i64 ((m : Int) * 2 + c))).setCell ⟨q, 2, none⟩ (.int .i64 8) = w1 at *
    simp at hb1
    have hs1 := hk1.size
    have hq1 : q < w1.heap.size := by omega
    have HB1 : Hid _ := hb1
    have HO1 : Hid (OwnB w1 B (.slice ao (wrun L).1.length cp) (wrun L).1) := ho1
    obtain ⟨⟨d0, d1, d2⟩, g0, g1, g2⟩ := trio_cell hb1
    clear hb1 ho1 c0 c1 c2 f0 f1 f2
    go_region_law (refine step_append_lies _ rfl (.tmp 30) (.tmp 36) 37 rfl B 5 i0 (.int .u8 0) 1 1 Tryz.underlying37 hi hz0 hz1 hz2 rfl (by decide) (.slice ao (wrun L).1.length cp) _ _ (by simp [Act.eval]) (by exact HO1.out.alloc _) ⟨w1.heap.size, 0, none⟩ 1 1 [.int .u8 (IntKind.u8.wrap ((m : Int) * 2 + c))] (by simp [Act.eval]) rfl (by intro j u hj; exact cell_new1 _ _ _ j u hj) (by intro u hu; simp at hu; subst hu; rfl) (by decide) (by unfold maxLen; omega) (by omega) (by simp; omega) _ rfl ?_; intro g cap w2 hown2 hgrow2 hat hlt2; have hb2 := grown_block HB1.out hgrow2 HNE.out; obtain ⟨⟨k0, k1, k2⟩, l0, l1, l2⟩ := trio_cell hb2; clear hb2)
    all_goals
      clear d0 d1 d2 g0 g1 g2
      go_wp2
      go_end0
      exact ⟨rfl, bit_done hk1 HNE.out hq1 HB1.out HS2.out HV.out hval hc0 hc1 hown2 hgrow2 hat⟩
  · have h7' : (wrun L).2.length < 7 := by omega
    have HS2 : Hid (wrun (L ++ [decide (c = 1)]) = ((wrun L).1, (wrun L).2 ++ [decide (c = 1)])) := by show _ = _; rw [HS.out]; exact if_neg h7
    clear HS h7
    generalize hn : (wrun L).2.length = n at *
    generalize hm : valB (wrun L).2 = m at *
    have HN : Hid _ := hn
    have HM : Hid _ := hm
    clear hn hm
    go_enter Tryz.func114, Tryz.ntmps114
    go_wp2
    go_end0
    refine ⟨rfl, v, ⟨?_, ?_⟩, ?_⟩
    · rw [set_block (set_block HW.out.block _), HS2.out]
      have e1 : (m : Int) * 2 + c = (valB ((wrun L).2 ++ [decide (c = 1)]) : Int) := by rw [HV.out]; omega
      have e2 : (n : Int) + 1 = (((wrun L).2 ++ [decide (c = 1)]).length : Int) := by rw [← HN.out]; simp
      rw [e1, e2]; rfl
    · rw [HS2.out]
      exact (HW.out.own.set _ HNE.out).set _ HNE.out
    · exact ⟨rfl, rfl, rfl, by simp, fun k _ hk _ => by rw [set_other _ hk, set_other _ hk], fun _ h => .inl h⟩
end Go.Proofs.YtnpnaglgllcpfaaGreat

/- What the program's Writer does to memory, method by method: digits, bytes, numbers, what fills a byte. -/
namespace Go.Proofs.YtnpnaglgllcpfaaGreat
set_option maxRecDepth 100000
open Go.RowKit

/-- The Writer's bits have become L'. -/
def WrDone (w w' : World) (q B : Nat) (v : Value) (L' : List Bool) : Prop := ∃ v', WrAt w' q B v' L' ∧ WrKept w w' q v v'

theorem half_pow (s : Nat) : 2 ^ (s + 1) / 2 = 2 ^ s := by rw [Nat.pow_succ]; omega

set_option maxHeartbeats 400000 in
theorem digits_calls (q B : Nat) (v : Value) (L : List Bool) (x top : Int) (n : Nat) (w : World) (h : WrAt w q B v L) (hB : B ≤ w.heap.size) (hl : L.length ≤ 10000000) (hx0 : 0 ≤ x) (hx1 : x ≤ 255) (hn : n ≤ 7) (ht : top = ((2 ^ n : Nat) : Int)) :
    Calls Tryz.prog 113 #[.pointer (some ⟨q, 0, none⟩), .int .i64 x, .int .i64 top] w fun e w' => e = .returned (.tuple #[]) ∧ WrDone w w' q B v (L ++ bin x.toNat (n + 1)) := by
  obtain ⟨x, rfl⟩ := Int.eq_ofNat_of_zero_le hx0
  rw [Int.toNat_natCast]
  have HW : Hid (WrAt w q B v L) := h
  have HTop : Hid (top = ((2 ^ n : Nat) : Int)) := ht
  clear h ht
  go_enter Tryz.func113, Tryz.ntmps113
  go_wp2
  go_loopw [6] (fun p wr => ∃ (r : Nat) (pre : List Bool) (v' : Value), r ≤ n + 1 ∧ p = .int .i64 ((2 ^ r / 2 : Nat) : Int) ∧ Hid (pre ++ bin x r = bin x (n + 1)) ∧ Hid (WrAt wr q B v' (L ++ pre)) ∧ WrKept w wr q v v') (fun p _ => (intOf p).toNat)
  case atStart => exact ⟨n + 1, [], v, Nat.le_refl _, by rw [HTop.out, half_pow], rfl, by show WrAt _ _ _ _ _; rw [List.append_nil]; exact HW.out, WrKept.refl _ _ _⟩
  case round =>
    obtain ⟨r, pre, v', hr, rfl, hpre, hw, hk⟩ := hrel
    have hlp : pre.length + r = n + 1 := by have := congrArg List.length hpre.out; rw [List.length_append, bin_length, bin_length] at this; exact this
    have hs := hk.size
    cases r with
    | zero =>
      have HP : Hid (pre = bin x (n + 1)) := by have := hpre.out; rw [bin, List.append_nil] at this; exact this
      have e0 : ((2 ^ 0 / 2 : Nat) : Int) = 0 := by decide
      rw [e0]
      go_wp2
      go_end0
      exact ⟨rfl, v', by rw [← HP.out]; exact hw.out, hk⟩
    | succ s =>
      rw [half_pow]
      have hp1 : 1 ≤ 2 ^ s := Nat.one_le_two_pow
      have hp2 : 2 ^ s ≤ 128 := Nat.pow_le_pow_right (n := 2) (by omega) (show s ≤ 7 by omega)
      have HP2 : Hid (2 ^ s / 2 = 2 ^ s / 2) := rfl
      have hnext : Hid ((pre ++ [x / 2 ^ s % 2 == 1]) ++ bin x s = bin x (n + 1)) := by have := hpre.out; rw [bin] at this; rw [List.append_assoc]; exact this
      generalize hP : 2 ^ s = P at *
      have HP : Hid _ := hP
      clear hP
      have d0 : 0 ≤ (x : Int) / (P : Int) := Int.ediv_nonneg (by omega) (by omega)
      have d1 : (x : Int) / (P : Int) ≤ 255 := Int.le_trans (Int.ediv_le_self _ (by omega)) hx1
      have m0 : 0 ≤ (x : Int) / (P : Int) % 2 := Int.emod_nonneg _ (by decide)
      have m1 : (x : Int) / (P : Int) % 2 ≤ 1 := by have := Int.emod_lt_of_pos ((x : Int) / (P : Int)) (show (0 : Int) < 2 by decide); omega
      have hdec : Hid (decide ((x : Int) / (P : Int) % 2 = 1) = (x / P % 2 == 1)) := by
        show _ = _
        rw [Bool.eq_iff_iff, decide_eq_true_eq, beq_iff_eq]
        constructor
        · intro h; have : ((x / P % 2 : Nat) : Int) = 1 := by simpa using h
          omega
        · intro h; have : ((x / P % 2 : Nat) : Int) = 1 := by rw [h]; rfl
          simpa using this
      go_wp2_with fail
      refine (bit_calls q B v' (L ++ pre) _ _ hw.out (by omega) (by simp; omega) m0 m1).mono ?_
      rintro e w1 ⟨rfl, v2, hw2, hk2⟩
      rw [hdec.out, List.append_assoc] at hw2
      have HW2 : Hid (WrAt w1 q B v2 (L ++ (pre ++ [x / P % 2 == 1]))) := hw2
      have hkk := hk.trans hk2
      clear hw2 hk2 hk
      go_wp2
      go_roundw
      case rel => exact ⟨s, _, v2, by omega, by rw [HP.out]; go_num, hnext, HW2, hkk⟩
      case measure => simp [intOf]; omega

theorem byte_calls (q B : Nat) (v : Value) (L : List Bool) (x : Int) (w : World) (h : WrAt w q B v L) (hB : B ≤ w.heap.size) (hl : L.length ≤ 10000000) (hx0 : 0 ≤ x) (hx1 : x ≤ 255) :
    Calls Tryz.prog 92 #[.pointer (some ⟨q, 0, none⟩), .int .i64 x] w fun e w' => e = .returned (.tuple #[]) ∧ WrDone w w' q B v (L ++ bin x.toNat 8) := by
  have HW : Hid (WrAt w q B v L) := h
  clear h
  go_enter Tryz.func92, Tryz.ntmps92
  go_wp2_with fail
  refine (digits_calls q B v L x 128 7 w HW.out hB hl hx0 hx1 (by omega) (by decide)).mono ?_
  rintro e w1 ⟨rfl, hd⟩
  have HD : Hid _ := hd
  clear hd
  go_wp2
  go_end0
  exact ⟨rfl, HD.out⟩

set_option maxHeartbeats 400000 in
theorem wnumber_calls (q B : Nat) (v : Value) (L : List Bool) (x : Int) (w : World) (h : WrAt w q B v L) (hB : B ≤ w.heap.size) (hl : L.length ≤ 9000000) (hx0 : 1 ≤ x) (hx1 : x ≤ 255) :
    Calls Tryz.prog 93 #[.pointer (some ⟨q, 0, none⟩), .int .i64 x] w fun e w' => e = .returned (.tuple #[]) ∧ WrDone w w' q B v (L ++ numBits x.toNat) := by
  obtain ⟨x, rfl⟩ := Int.eq_ofNat_of_zero_le (show 0 ≤ x by omega)
  rw [Int.toNat_natCast]
  have HW : Hid (WrAt w q B v L) := h
  clear h
  go_enter Tryz.func93, Tryz.ntmps93
  go_wp2
  go_loopw [4] (fun t wr => ∃ (k : Nat) (v' : Value), k ≤ 7 ∧ Hid (2 ^ k ≤ x) ∧ t = .int .i64 ((2 ^ k : Nat) : Int) ∧ Hid (WrAt wr q B v' (L ++ List.replicate k false)) ∧ WrKept w wr q v v') (fun t _ => 255 - (intOf t).toNat)
  case atStart => exact ⟨0, v, by omega, by show 2 ^ 0 ≤ x; omega, rfl, by show WrAt _ _ _ _ _; simpa using HW.out, WrKept.refl _ _ _⟩
  case round =>
    obtain ⟨k, v', hk7, hkx, rfl, hw, hk⟩ := hrel
    have hs := hk.size
    have hkx' := hkx.out
    have hp1 : 1 ≤ 2 ^ k := Nat.one_le_two_pow
    have hpk : Hid (2 ^ (k + 1) = 2 ^ k * 2) := Nat.pow_succ ..
    have hp7 : k = 7 → 128 ≤ 2 ^ k := by intro e; subst e; decide
    generalize hP : 2 ^ k = P at *
    have HP : Hid _ := hP
    clear hP
    by_cases hle : P ≤ x / 2
    · have hk6 : k < 7 := by
        rcases Nat.lt_or_ge k 7 with h | h
        · exact h
        · have := hp7 (by omega); omega
      clear hp7
      go_wp2_with fail
      refine (bit_calls q B v' (L ++ List.replicate k false) 0 _ hw.out (by omega) (by simp; omega) (by omega) (by omega)).mono ?_
      rintro e w1 ⟨rfl, v2, hw2, hk2⟩
      have HW2 : Hid (WrAt w1 q B v2 (L ++ List.replicate (k + 1) false)) := by
        show WrAt _ _ _ _ _
        rw [List.replicate_succ', ← List.append_assoc]; exact hw2
      have hkk := hk.trans hk2
      clear hw2 hk2 hk
      go_wp2
      go_roundw
      case rel => exact ⟨k + 1, v2, by omega, by show 2 ^ (k + 1) ≤ x; rw [hpk.out]; omega, by rw [hpk.out]; go_num, HW2, hkk⟩
      case measure => simp [intOf]; omega
    · clear hp7
      have HL : Hid (Nat.log2 x = k) := (Nat.log2_eq_iff (by omega)).2 ⟨by rw [HP.out]; exact hkx.out, by rw [hpk.out]; omega⟩
      go_wp2_with fail
      refine (digits_calls q B v' (L ++ List.replicate k false) _ _ k _ hw.out (by omega) (by simp; omega) (by omega) (by omega) hk7 (by rw [HP.out])).mono ?_
      rintro e w1 ⟨rfl, v2, hw2, hk2⟩
      have HW2 : Hid (WrAt w1 q B v2 (L ++ numBits x)) := by
        show WrAt _ _ _ _ _
        rw [Int.toNat_natCast, List.append_assoc] at hw2
        unfold numBits
        rw [HL.out]; exact hw2
      have hkk := hk.trans hk2
      clear hw2 hk2 hk
      go_wp2
      go_end0
      exact ⟨rfl, v2, HW2.out, hkk⟩

set_option maxHeartbeats 400000 in
theorem fill_calls (q B : Nat) (v : Value) (L : List Bool) (w : World) (h : WrAt w q B v L) (hB : B ≤ w.heap.size) (hl : L.length ≤ 10000000) :
    Calls Tryz.prog 95 #[.pointer (some ⟨q, 0, none⟩)] w fun e w' => e = .returned (.tuple #[]) ∧ WrDone w w' q B v (fill L) := by
  have HW : Hid (WrAt w q B v L) := h
  clear h
  go_enter Tryz.func95, Tryz.ntmps95
  go_wp2
  go_loopg [2] (padN L.length) (fun g _ wr => ∃ (L' : List Bool) (v' : Value), g = padN L'.length ∧ L'.length ≤ 10000010 - g ∧ Hid (fill L' = fill L) ∧ Hid (WrAt wr q B v' L') ∧ WrKept w wr q v v')
  case atStart => exact ⟨L, v, rfl, by unfold padN; omega, rfl, HW, WrKept.refl _ _ _⟩
  case round =>
    obtain ⟨L', v', hg, hll, hf, hw, hk⟩ := hrel
    have hs := hk.size
    obtain ⟨⟨c0, c1, c2⟩, f0, f1, f2⟩ := trio_cell hw.out.block
    rw [wrun_count] at c2
    clear c0 c1 f0 f1 f2
    have hgl : gk < 8 := by rw [hg]; unfold padN; omega
    by_cases h0 : L'.length % 8 = 0
    · have HE : Hid (L' = fill L) := by rw [← hf.out]; exact (fill_full L' h0).symm
      rw [h0] at c2
      go_wp2
      go_end0
      exact ⟨rfl, v', by rw [← HE.out]; exact hw.out, hk⟩
    · have hgg : Hid (padN (L' ++ [false]).length < gk) := by rw [hg]; show _ < _; simp only [List.length_append, List.length_cons, List.length_nil]; unfold padN; omega
      have hgl2 : L'.length + 1 ≤ 10000010 - padN (L' ++ [false]).length := by have := hgg.out; omega
      have HF : Hid (fill (L' ++ [false]) = fill L) := by show _ = _; rw [← fill_more L' h0]; exact hf.out
      have hn0 : ((L'.length : Int) % 8 == 0) = false := by simp; omega
      have HG : Hid _ := hg
      clear hg
      go_wp2_with fail
      refine (bit_calls q B v' L' 0 _ hw.out (by omega) (by omega) (by omega) (by omega)).mono ?_
      rintro e w1 ⟨rfl, v2, hw2, hk2⟩
      have HW2 : Hid (WrAt w1 q B v2 (L' ++ [false])) := hw2
      have hkk := hk.trans hk2
      clear hw2 hk2 hk
      go_wp2
      go_roundg (padN (L' ++ [false]).length)
      case measure => exact hgg.out
      case rel => exact ⟨L' ++ [false], v2, rfl, by simp at hgl2 ⊢; omega, HF, HW2, hkk⟩
end Go.Proofs.YtnpnaglgllcpfaaGreat

/- What the program's Sum, and the document's, tell of some bytes: the same number. -/
namespace Go.Proofs.YtnpnaglgllcpfaaGreat
set_option maxRecDepth 100000
open Go.ChangeShapes Go.WideShapes Go.ChangeAt Go.RowKit
open Go.ChangeMaps (open_string shut_string)
set_option linter.unusedVariables false

namespace Plain
/-- The two counts behind some bytes, each taken modulo 255 at once. -/
def sumStep (p : Int × Int) (c : UInt8) : Int × Int := ((p.1 + c.toNat) % 255, (p.2 + (p.1 + c.toNat) % 255) % 255)
def sumOf (l : List UInt8) : Int × Int := l.foldl sumStep (0, 0)
def total (l : List UInt8) : Int := (sumOf l).1 + 256 * (sumOf l).2
/-- The two counts, the first never cut, the second out of cut ones. -/
def rawStep (p : Int × Int) (c : UInt8) : Int × Int := (p.1 + c.toNat, p.2 + (p.1 + c.toNat) % 255)
def rawOf (l : List UInt8) : Int × Int := l.foldl rawStep (0, 0)
theorem sumOf_snoc (l : List UInt8) (c : UInt8) : sumOf (l ++ [c]) = sumStep (sumOf l) c := by simp [sumOf]
theorem rawOf_snoc (l : List UInt8) (c : UInt8) : rawOf (l ++ [c]) = rawStep (rawOf l) c := by simp [rawOf]
theorem raw_sum_go (l : List UInt8) : ∀ (p q : Int × Int), p.1 % 255 = q.1 → p.2 % 255 = q.2 → (l.foldl rawStep p).1 % 255 = (l.foldl sumStep q).1 ∧ (l.foldl rawStep p).2 % 255 = (l.foldl sumStep q).2 := by
  induction l with
  | nil => intro p q h1 h2; exact ⟨h1, h2⟩
  | cons c l ih =>
    intro p q h1 h2
    simp only [List.foldl_cons]
    apply ih
    · simp only [rawStep, sumStep]; omega
    · simp only [rawStep, sumStep]; omega
theorem raw_sum (l : List UInt8) : (rawOf l).1 % 255 = (sumOf l).1 ∧ (rawOf l).2 % 255 = (sumOf l).2 := raw_sum_go l (0, 0) (0, 0) rfl rfl
theorem sum_range_go (l : List UInt8) : ∀ (p : Int × Int), 0 ≤ p.1 ∧ p.1 ≤ 254 ∧ 0 ≤ p.2 ∧ p.2 ≤ 254 → 0 ≤ (l.foldl sumStep p).1 ∧ (l.foldl sumStep p).1 ≤ 254 ∧ 0 ≤ (l.foldl sumStep p).2 ∧ (l.foldl sumStep p).2 ≤ 254 := by
  induction l with
  | nil => intro p h; exact h
  | cons c l ih =>
    intro p h
    simp only [List.foldl_cons]
    apply ih
    simp only [sumStep]
    omega
theorem sum_range (l : List UInt8) : 0 ≤ (sumOf l).1 ∧ (sumOf l).1 ≤ 254 ∧ 0 ≤ (sumOf l).2 ∧ (sumOf l).2 ≤ 254 := sum_range_go l (0, 0) (by decide)
theorem raw_range_go (l : List UInt8) : ∀ (p : Int × Int) (n : Int), 0 ≤ p.1 ∧ p.1 ≤ 255 * n ∧ 0 ≤ p.2 ∧ p.2 ≤ 255 * n → 0 ≤ (l.foldl rawStep p).1 ∧ (l.foldl rawStep p).1 ≤ 255 * (n + l.length) ∧ 0 ≤ (l.foldl rawStep p).2 ∧ (l.foldl rawStep p).2 ≤ 255 * (n + l.length) := by
  induction l with
  | nil => intro p n h; simpa using h
  | cons c l ih =>
    intro p n h
    simp only [List.foldl_cons]
    have hc : c.toNat < 256 := c.toNat_lt
    have := ih (rawStep p c) (n + 1) (by simp only [rawStep]; omega)
    simp only [List.length_cons]
    omega
theorem raw_range (l : List UInt8) : 0 ≤ (rawOf l).1 ∧ (rawOf l).1 ≤ 255 * l.length ∧ 0 ≤ (rawOf l).2 ∧ (rawOf l).2 ≤ 255 * l.length := by
  have := raw_range_go l (0, 0) 0 (by decide)
  simpa [rawOf] using this
theorem take_snoc (l : List UInt8) (k : Nat) (h : k < l.length) : l.take (k + 1) = l.take k ++ [l.getD k 0] := by
  rw [List.take_succ_eq_append_getElem h]; simp [List.getD, h]
end Plain
/-- A row of bytes in memory: the bytes l lie at a. -/
def BytesAt (w : World) (a : Option Addr) (l : List UInt8) : Prop :=
  (l = [] ) ∨ ∃ b off, a = some ⟨b, off, none⟩ ∧ ∀ i, i < l.length → w.cell? ⟨b, off + i, none⟩ = some (.int .u8 (l.getD i 0).toNat)
theorem ret_int {k : IntKind} {a b : Int} (h : a = b) : Ending.returned (.int k a) = .returned (.int k b) := by rw [h]
set_option maxHeartbeats 400000 in
theorem of_calls (a : Option Addr) (l : List UInt8) (cap : Nat) (w : World) (hl : l.length ≤ 140737488355328) (hb : BytesAt w a l) :
    Calls Tryz.prog 48 #[.slice a l.length cap] w fun e w' => e = .returned (.int .i64 (Plain.total l)) ∧ w' = w := by
  have HB : Hid (BytesAt w a l) := hb
  clear hb
  go_enter Tryz.func48, Tryz.ntmps48
  go_wp2
  go_loop [3, 4, 9] (fun f s i => ∃ k : Nat, k ≤ l.length ∧ i = .int .i64 k ∧ f = .int .i64 (Plain.sumOf (l.take k)).1 ∧ s = .int .i64 (Plain.sumOf (l.take k)).2) (fun _ _ i => l.length - (intOf i).toNat)
  case atStart => exact ⟨0, Nat.zero_le _, rfl, rfl, rfl⟩
  case round =>
    obtain ⟨k, hk, rfl, rfl, rfl⟩ := hrel
    have hr := Plain.sum_range (l.take k)
    by_cases hlt : k < l.length
    · obtain ⟨b, off, ha, hcell⟩ : ∃ b off, a = some ⟨b, off, none⟩ ∧ ∀ i, i < l.length → w.cell? ⟨b, off + i, none⟩ = some (.int .u8 (l.getD i 0).toNat) := by
        rcases HB.out with h | h
        · rw [h] at hlt; simp at hlt
        · exact h
      subst ha
      have hc := hcell k hlt
      clear hcell
      have HS : Hid (Plain.sumOf (l.take (k + 1)) = Plain.sumStep (Plain.sumOf (l.take k)) (l.getD k 0)) := by rw [Plain.take_snoc l k hlt]; exact Plain.sumOf_snoc _ _
      have hcn : (l.getD k 0).toNat < 256 := (l.getD k 0).toNat_lt
      generalize l.getD k 0 = c at *
      generalize Plain.sumOf (l.take k) = p at *
      go_wp2
      go_round
      case rel =>
        refine ⟨k + 1, by omega, by go_num, ?_, ?_⟩
        · rw [HS.out]; simp only [Plain.sumStep]
        · rw [HS.out]; simp only [Plain.sumStep]
      case measure => simp [intOf]; omega
    · go_wp2
      go_ret
      have : k = l.length := by omega
      subst this
      exact ⟨ret_int (by rw [List.take_length]; rfl), rfl⟩
end Go.Proofs.YtnpnaglgllcpfaaGreat
