/-
  The law All returns true of every script of bulk at most 1048576 (the form upto: its arguments hold together at most so many values and letters): every call, in every order, over several Encoders and Decoders; what is handed in is as it was, and what comes out is its owner's alone..
-/
import Derived.Test.YtnpnaglgllcpfaaGreatM31
import Derived.Test.YtnpnaglgllcpfaaGreatM32
/- The law All returns true of every script of bulk at most 1048576 (the form upto: its arguments hold together at most so many values and letters): every call, in every order, over several Encoders and Decoders; what is handed in is as it was, and what comes out is its owner's alone. -/
namespace Go.Proofs.YtnpnaglgllcpfaaGreat
set_option maxRecDepth 100000
open Go.RowKit

theorem Moved.grown {w w3 w4 : World} {o o' : Nat → Prop} {g : Nat} (h : Moved w w3 o o') (hg : w3.grownBy w4 (some g)) (hw : w.heap.size ≤ g) : Moved w w4 o o' :=
  ⟨hg.os.trans h.os, hg.tape.trans h.tape, hg.output.trans h.output, Nat.le_trans h.size hg.size,
    fun k hk hn => (hg.block k (Nat.lt_of_lt_of_le hk h.size) (fun e => by simp at e; omega)).trans (h.heap k hk hn), h.new⟩
theorem plain_calls (Q N : Nat) (S : St) (kind A : Int) (s : ByteArray) (ta : Option Addr) (tn tc : Nat) (pa : Option Addr) (pn pc gB : Nat) (w : World) (hI : Inv w Q S N) (hN : N ≤ 100000000000) (hk : kind = 1 ∨ kind = 4 ∨ kind = 5 ∨ kind = 6 ∨ kind = 7 ∨ kind = 8 ∨ kind = 9) (hs : s.size ≤ 2000000) (hr : RoomAt w gB s) :
    Calls Tryz.prog 9 #[.pointer (some ⟨Q, 0, none⟩), opV kind A s ta tn tc pa pn pc, .slice (some ⟨gB, 0, none⟩) s.size (s.size + 2)] w fun e w' => StepAns w w' Q N S e := by
  rcases hk with rfl | rfl | rfl | rfl | rfl | rfl | rfl
  · exact plain1_calls Q N S A s ta tn tc pa pn pc gB w hI hN hs hr
  · exact plain4_calls Q N S A s ta tn tc pa pn pc gB w hI hN hs hr
  · exact plain5_calls Q N S A s ta tn tc pa pn pc gB w hI hN hs hr
  · exact plain6_calls Q N S A s ta tn tc pa pn pc gB w hI hN hs hr
  · exact plain7_calls Q N S A s ta tn tc pa pn pc gB w hI hN hs hr
  · exact plain8_calls Q N S A s ta tn tc pa pn pc gB w hI hN hs hr
  · exact plain9_calls Q N S A s ta tn tc pa pn pc gB w hI hN hs hr
theorem sides_calls (Q N : Nat) (S : St) (kind A : Int) (s : ByteArray) (ta : Option Addr) (tn tc : Nat) (pa : Option Addr) (pn pc gB : Nat) (w : World) (hI : Inv w Q S N) (hN : N ≤ 100000000000) (hk : kind = 10 ∨ kind = 11 ∨ kind = 12 ∨ kind = 13 ∨ kind = 14 ∨ kind = 15) (hA : -9223372036854775808 ≤ A ∧ A ≤ 9223372036854775807) (hs : s.size ≤ 2000000) (hr : RoomAt w gB s) (hgB : ¬ S.own gB) :
    Calls Tryz.prog 8 #[.pointer (some ⟨Q, 0, none⟩), opV kind A s ta tn tc pa pn pc, .slice (some ⟨gB, 0, none⟩) s.size (s.size + 2)] w fun e w' => StepAns w w' Q N S e := by
  rcases hk with rfl | rfl | rfl | rfl | rfl | rfl
  · exact sides10_calls Q N S A s ta tn tc pa pn pc _ w hI hN
  · exact sides11_calls Q N S A s ta tn tc pa pn pc gB w hI hN hA hs hr hgB
  · exact sides12_calls Q N S A s ta tn tc pa pn pc _ w hI hN hA
  · exact sides13_calls Q N S A s ta tn tc pa pn pc _ w hI hN
  · exact sides14_calls Q N S A s ta tn tc pa pn pc gB w hI hN hA hs hr hgB
  · exact sides15_calls Q N S A s ta tn tc pa pn pc _ w hI hN hA

set_option maxHeartbeats 1000000 in
theorem step2_calls (Q N : Nat) (S : St) (A : Int) (s : ByteArray) (ta : Option Addr) (ts : List Tok) (tc : Nat) (pa : Option Addr) (pn pc : Nat) (W0 w : World) (hI : Inv w Q S N) (hN : N ≤ 100000000000) (hb : Below W0.heap.size W0 w) (ht : ToksAt W0 ta ts) (hts : ts.length ≤ 2000000) :
    Calls Tryz.prog 4 #[.pointer (some ⟨Q, 0, none⟩), opV 2 A s ta ts.length tc pa pn pc] w fun e w' => StepAns w w' Q N S e := by
  have HI : Hid (Inv w Q S N) := hI
  have HB : Hid (Below W0.heap.size W0 w) := hb
  have HT : Hid (ToksAt W0 ta ts) := ht
  have hb1 : Below w.heap.size w (w.alloc (opCells 2 A s ta ts.length tc pa pn pc)) := (Below.refl _ _).alloc (Nat.le_refl _) _
  have HB1 : Hid (Below w.heap.size w (w.alloc (opCells 2 A s ta ts.length tc pa pn pc))) := hb1
  clear hI hb ht hb1
  go_enter Tryz.func4, Tryz.ntmps4
  go_wp2_with fail
  generalize w.alloc (opCells 2 A s ta ts.length tc pa pn pc) = w1 at *
  refine (listsE_calls Q N S A s ta ts tc pa pn pc W0 w1 (HI.out.below HB1.out) hN (HB.out.trans (HB1.out.mono HB.out.size)) HT.out hts).mono ?_
  rintro e w2 ⟨rfl, S2, hI2, hM2⟩
  have HI2 : Hid (Inv w2 Q S2 (N + 1)) := hI2
  have HM2 : Hid (Moved w w2 S.own S2.own) := (Moved.below HB1.out S.own).trans hM2
  clear hI2 hM2
  go_wp2
  go_ret
  exact ⟨rfl, S2, HI2.out.more (by omega), HM2.out⟩
set_option maxHeartbeats 1000000 in
theorem step3_calls (Q N : Nat) (S : St) (A : Int) (s : ByteArray) (ta : Option Addr) (tn tc : Nat) (pa : Option Addr) (ps : List (List Tok)) (pc : Nat) (W0 w : World) (hI : Inv w Q S N) (hN : N ≤ 100000000000) (hb : Below W0.heap.size W0 w) (hown : ∀ k, S.own k → W0.heap.size ≤ k) (hp : PiecesAt W0 pa ps) (hps : ps.length ≤ 2000000) (hpl : ∀ m, m < ps.length → (ps.getD m []).length ≤ 2000000) :
    Calls Tryz.prog 4 #[.pointer (some ⟨Q, 0, none⟩), opV 3 A s ta tn tc pa ps.length pc] w fun e w' => StepAns w w' Q N S e := by
  have HI : Hid (Inv w Q S N) := hI
  have HB : Hid (Below W0.heap.size W0 w) := hb
  have HT : Hid (PiecesAt W0 pa ps) := hp
  have HPL : Hid (∀ m, m < ps.length → (ps.getD m []).length ≤ 2000000) := hpl
  have HOW : Hid (∀ k, S.own k → W0.heap.size ≤ k) := hown
  have hb1 : Below w.heap.size w (w.alloc (opCells 3 A s ta tn tc pa ps.length pc)) := (Below.refl _ _).alloc (Nat.le_refl _) _
  have HB1 : Hid (Below w.heap.size w (w.alloc (opCells 3 A s ta tn tc pa ps.length pc))) := hb1
  clear hI hb hp hb1 hpl hown
  go_enter Tryz.func4, Tryz.ntmps4
  go_wp2_with fail
  generalize w.alloc (opCells 3 A s ta tn tc pa ps.length pc) = w1 at *
  refine (listsP_calls Q N S 3 A s ta tn tc pa ps pc W0 w1 (HI.out.below HB1.out) hN (HB.out.trans (HB1.out.mono HB.out.size)) (by decide) HOW.out HT.out hps HPL.out).mono ?_
  rintro e w2 ⟨rfl, S2, hI2, hM2⟩
  have HI2 : Hid (Inv w2 Q S2 (N + 1)) := hI2
  have HM2 : Hid (Moved w w2 S.own S2.own) := (Moved.below HB1.out S.own).trans hM2
  clear hI2 hM2
  go_wp2
  go_ret
  exact ⟨rfl, S2, HI2.out.more (by omega), HM2.out⟩
set_option maxHeartbeats 1000000 in
theorem stepL_calls (Q N : Nat) (S : St) (kind A : Int) (s : ByteArray) (ta : Option Addr) (tn tc : Nat) (pa : Option Addr) (pn pc : Nat) (w : World) (hI : Inv w Q S N) (hk : kind < 1 ∨ 15 < kind) :
    Calls Tryz.prog 4 #[.pointer (some ⟨Q, 0, none⟩), opV kind A s ta tn tc pa pn pc] w fun e w' => StepAns w w' Q N S e := by
  have HI : Hid (Inv w Q S N) := hI
  have hb1 : Below w.heap.size w (w.alloc (opCells kind A s ta tn tc pa pn pc)) := (Below.refl _ _).alloc (Nat.le_refl _) _
  have HB1 : Hid (Below w.heap.size w (w.alloc (opCells kind A s ta tn tc pa pn pc))) := hb1
  have h2 : (kind == 2) = false := by simp; omega
  have h3 : (kind == 3) = false := by simp; omega
  clear hI hb1
  rcases hk with hk | hk
  · go_enter Tryz.func4, Tryz.ntmps4
    go_wp2
    go_ret
    exact ⟨rfl, S, (HI.out.below HB1.out).more (by omega), Moved.below HB1.out _⟩
  · have hk1 : ¬ kind < 1 := by omega
    go_enter Tryz.func4, Tryz.ntmps4
    go_wp2
    go_ret
    exact ⟨rfl, S, (HI.out.below HB1.out).more (by omega), Moved.below HB1.out _⟩
set_option maxHeartbeats 1000000 in
theorem stepS_calls (Q N : Nat) (S : St) (kind A : Int) (s : ByteArray) (ta : Option Addr) (tn tc : Nat) (pa : Option Addr) (pn pc : Nat) (w : World) (hI : Inv w Q S N) (hN : N ≤ 100000000000) (hk : kind = 10 ∨ kind = 11 ∨ kind = 12 ∨ kind = 13 ∨ kind = 14 ∨ kind = 15) (hA : -9223372036854775808 ≤ A ∧ A ≤ 9223372036854775807) (hs : s.size ≤ 2000000) :
    Calls Tryz.prog 4 #[.pointer (some ⟨Q, 0, none⟩), opV kind A s ta tn tc pa pn pc] w fun e w' => StepAns w w' Q N S e := by
  have HI : Hid (Inv w Q S N) := hI
  have hb1 : Below w.heap.size w (w.alloc (opCells kind A s ta tn tc pa pn pc)) := (Below.refl _ _).alloc (Nat.le_refl _) _
  have HB1 : Hid (Below w.heap.size w (w.alloc (opCells kind A s ta tn tc pa pn pc))) := hb1
  have hbx1 : OpBox (w.alloc (opCells kind A s ta tn tc pa pn pc)) w.heap.size kind A s ta tn tc pa pn pc := heap_alloc_new w _
  have HBX1 : Hid (OpBox (w.alloc (opCells kind A s ta tn tc pa pn pc)) w.heap.size kind A s ta tn tc pa pn pc) := hbx1
  have hs1 : (w.alloc (opCells kind A s ta tn tc pa pn pc)).heap.size = w.heap.size + 1 := by simp
  have h2 : (kind == 2) = false := by simp; omega
  have h3 : (kind == 3) = false := by simp; omega
  have hk1 : ¬ kind < 1 := by omega
  have hk15 : ¬ 15 < kind := by omega
  have hk10 : 10 ≤ kind := by omega
  have hq := hI.qlt
  have HK : Hid (kind = 10 ∨ kind = 11 ∨ kind = 12 ∨ kind = 13 ∨ kind = 14 ∨ kind = 15) := hk
  clear hI hb1 hbx1 hk
  go_enter Tryz.func4, Tryz.ntmps4
  go_wp2_with fail
  refine (roomy_calls s _ hs).mono ?_
  generalize w.alloc (opCells kind A s ta tn tc pa pn pc) = w1 at *
  rintro e w2 ⟨rfl, hb2, hs2, hr2⟩
  rw [hs1] at hb2 hs2 hr2 ⊢
  have hbx2 : OpBox w2 w.heap.size kind A s ta tn tc pa pn pc := by show _ = _; rw [hb2.block _ (by omega)]; exact HBX1.out
  have HB2 : Hid (Below w.heap.size w w2) := HB1.out.trans (hb2.mono (by omega))
  have HR2 : Hid (RoomAt w2 (w.heap.size + 1) s) := hr2
  obtain ⟨⟨c0, c1, c2, c3, c4⟩, _⟩ := five_cell hbx2
  have HBX2 : Hid (OpBox w2 w.heap.size kind A s ta tn tc pa pn pc) := hbx2
  have hlt2 : w.heap.size < w2.heap.size := by omega
  clear hb2 hr2 hbx2 HBX1 HB1
  go_wp2_with fail
  refine (sides_calls Q N S kind A s ta tn tc pa pn pc (w.heap.size + 1) w2 (HI.out.below HB2.out) hN HK.out hA hs HR2.out (fun h => by have := HI.out.own_lt h; omega)).mono ?_
  rintro e w3 ⟨rfl, S3, hI3, hM3⟩
  have hbx3 : OpBox w3 w.heap.size kind A s ta tn tc pa pn pc := (hM3.heap _ hlt2 (fun h => by have := HI.out.own_lt h; omega)).trans HBX2.out
  have HR3 : Hid (RoomAt w3 (w.heap.size + 1) s) := (hM3.heap _ hs2 (fun h => by have := HI.out.own_lt h; omega)).trans HR2.out
  have HI3 : Hid (Inv w3 Q S3 (N + 5000)) := hI3
  have HM3 : Hid (Moved w w3 S.own S3.own) := (Moved.below HB2.out S.own).trans hM3
  have HNO : Hid (¬ S3.own (w.heap.size + 1)) := fun h => by
    rcases hM3.new _ h with h1 | h1
    · have := HI.out.own_lt h1
      omega
    · omega
  have hlt3 : w.heap.size < w3.heap.size := Nat.lt_of_lt_of_le hlt2 hM3.size
  clear c0 c1 c2 c3 c4
  obtain ⟨⟨c0, c1, c2, c3, c4⟩, _⟩ := five_cell hbx3
  clear hI3 hM3 hbx3 HR2 HBX2
  go_wp2_with fail
  refine (kept_calls (w.heap.size + 1) s w3 hs HR3.out).mono ?_
  rintro e w4 ⟨rfl, hg4⟩
  have HI4 : Hid (Inv w4 Q S3 (N + 5000)) := HI3.out.frame (grown_moved hg4 (fun k => k = w.heap.size + 1) (fun k h => by simp at h; omega)) (fun k hk e => by subst e; exact HNO.out hk)
  have HM4 : Hid (Moved w w4 S.own S3.own) := HM3.out.grown hg4 (by omega)
  clear hg4 c0 c1 c2 c3 c4
  go_wp2
  go_ret
  exact ⟨rfl, S3, HI4.out, HM4.out⟩
set_option maxHeartbeats 1000000 in
theorem stepP_calls (Q N : Nat) (S : St) (kind A : Int) (s : ByteArray) (ta : Option Addr) (tn tc : Nat) (pa : Option Addr) (pn pc : Nat) (w : World) (hI : Inv w Q S N) (hN : N ≤ 100000000000) (hk : kind = 1 ∨ kind = 4 ∨ kind = 5 ∨ kind = 6 ∨ kind = 7 ∨ kind = 8 ∨ kind = 9) (_hA : -9223372036854775808 ≤ A ∧ A ≤ 9223372036854775807) (hs : s.size ≤ 2000000) :
    Calls Tryz.prog 4 #[.pointer (some ⟨Q, 0, none⟩), opV kind A s ta tn tc pa pn pc] w fun e w' => StepAns w w' Q N S e := by
  have HI : Hid (Inv w Q S N) := hI
  have hb1 : Below w.heap.size w (w.alloc (opCells kind A s ta tn tc pa pn pc)) := (Below.refl _ _).alloc (Nat.le_refl _) _
  have HB1 : Hid (Below w.heap.size w (w.alloc (opCells kind A s ta tn tc pa pn pc))) := hb1
  have hbx1 : OpBox (w.alloc (opCells kind A s ta tn tc pa pn pc)) w.heap.size kind A s ta tn tc pa pn pc := heap_alloc_new w _
  have HBX1 : Hid (OpBox (w.alloc (opCells kind A s ta tn tc pa pn pc)) w.heap.size kind A s ta tn tc pa pn pc) := hbx1
  have hs1 : (w.alloc (opCells kind A s ta tn tc pa pn pc)).heap.size = w.heap.size + 1 := by simp
  have h2 : (kind == 2) = false := by simp; omega
  have h3 : (kind == 3) = false := by simp; omega
  have hk1 : ¬ kind < 1 := by omega
  have hk15 : ¬ 15 < kind := by omega
  have hk10 : ¬ 10 ≤ kind := by omega
  have hq := hI.qlt
  have HK : Hid (kind = 1 ∨ kind = 4 ∨ kind = 5 ∨ kind = 6 ∨ kind = 7 ∨ kind = 8 ∨ kind = 9) := hk
  clear hI hb1 hbx1 hk
  go_enter Tryz.func4, Tryz.ntmps4
  go_wp2_with fail
  refine (roomy_calls s _ hs).mono ?_
  generalize w.alloc (opCells kind A s ta tn tc pa pn pc) = w1 at *
  rintro e w2 ⟨rfl, hb2, hs2, hr2⟩
  rw [hs1] at hb2 hs2 hr2 ⊢
  have hbx2 : OpBox w2 w.heap.size kind A s ta tn tc pa pn pc := by show _ = _; rw [hb2.block _ (by omega)]; exact HBX1.out
  have HB2 : Hid (Below w.heap.size w w2) := HB1.out.trans (hb2.mono (by omega))
  have HR2 : Hid (RoomAt w2 (w.heap.size + 1) s) := hr2
  obtain ⟨⟨c0, c1, c2, c3, c4⟩, _⟩ := five_cell hbx2
  have HBX2 : Hid (OpBox w2 w.heap.size kind A s ta tn tc pa pn pc) := hbx2
  have hlt2 : w.heap.size < w2.heap.size := by omega
  clear hb2 hr2 hbx2 HBX1 HB1
  go_wp2_with fail
  refine (plain_calls Q N S kind A s ta tn tc pa pn pc (w.heap.size + 1) w2 (HI.out.below HB2.out) hN HK.out hs HR2.out).mono ?_
  rintro e w3 ⟨rfl, S3, hI3, hM3⟩
  have hbx3 : OpBox w3 w.heap.size kind A s ta tn tc pa pn pc := (hM3.heap _ hlt2 (fun h => by have := HI.out.own_lt h; omega)).trans HBX2.out
  have HR3 : Hid (RoomAt w3 (w.heap.size + 1) s) := (hM3.heap _ hs2 (fun h => by have := HI.out.own_lt h; omega)).trans HR2.out
  have HI3 : Hid (Inv w3 Q S3 (N + 5000)) := hI3
  have HM3 : Hid (Moved w w3 S.own S3.own) := (Moved.below HB2.out S.own).trans hM3
  have HNO : Hid (¬ S3.own (w.heap.size + 1)) := fun h => by
    rcases hM3.new _ h with h1 | h1
    · have := HI.out.own_lt h1
      omega
    · omega
  have hlt3 : w.heap.size < w3.heap.size := Nat.lt_of_lt_of_le hlt2 hM3.size
  clear c0 c1 c2 c3 c4
  obtain ⟨⟨c0, c1, c2, c3, c4⟩, _⟩ := five_cell hbx3
  clear hI3 hM3 hbx3 HR2 HBX2
  go_wp2_with fail
  refine (kept_calls (w.heap.size + 1) s w3 hs HR3.out).mono ?_
  rintro e w4 ⟨rfl, hg4⟩
  have HI4 : Hid (Inv w4 Q S3 (N + 5000)) := HI3.out.frame (grown_moved hg4 (fun k => k = w.heap.size + 1) (fun k h => by simp at h; omega)) (fun k hk e => by subst e; exact HNO.out hk)
  have HM4 : Hid (Moved w w4 S.own S3.own) := HM3.out.grown hg4 (by omega)
  clear hg4 c0 c1 c2 c3 c4
  go_wp2
  go_ret
  exact ⟨rfl, S3, HI4.out, HM4.out⟩
theorem stepLaw : StepLaw := by
  intro Q N S r W0 w hI hN hb hown hok
  obtain ⟨kind, A, s, ta, ts, tc, pa, ps, pc⟩ := r
  obtain ⟨hk, hA, hs, ht, htl, hp, hpl, hml⟩ := hok
  dsimp only at *
  by_cases h2 : kind = 2
  · subst h2
    exact step2_calls Q N S A s ta ts tc pa ps.length pc W0 w hI hN hb ht htl
  by_cases h3 : kind = 3
  · subst h3
    exact step3_calls Q N S A s ta ts.length tc pa ps pc W0 w hI hN hb hown hp hpl hml
  by_cases h0 : kind < 1 ∨ 15 < kind
  · exact stepL_calls Q N S kind A s ta ts.length tc pa ps.length pc w hI h0
  by_cases h10 : 10 ≤ kind
  · exact stepS_calls Q N S kind A s ta ts.length tc pa ps.length pc w hI hN (by omega) hA hs
  · exact stepP_calls Q N S kind A s ta ts.length tc pa ps.length pc w hI hN (by omega) hA hs
theorem all_upto_holds : Rows.AllUptoSaid := all_upto_of (allLaw_of stepLaw)
#print axioms all_upto_holds
end Go.Proofs.YtnpnaglgllcpfaaGreat
