/-
  Lemmas for the law All: Gz, OpenToks, Hc, Hd, Hb.
-/
import Derived.Test.YtnpnaglgllcpfaaGreatM31
import Derived.Test.YtnpnaglgllcpfaaGreatM01
import Derived.ProofKit
import Derived.OpenShut
import Derived.ChangeOld
import Derived.Carry
import Derived.Deep.Slices
import Derived.Deep.Strs
import Derived.Test.YtnpnaglgllcpfaaGreatM03
import Derived.JoinedCond
import Derived.ChangeSlices
import Derived.Test.YtnpnaglgllcpfaaGreatM27
/- The step of Write, Close, Feed and End. -/
namespace Go.Proofs.YtnpnaglgllcpfaaGreat
set_option maxRecDepth 100000
open Go.RowKit

set_option maxHeartbeats 2000000 in
theorem sides14_calls (Q N : Nat) (S : St) (A : Int) (s : ByteArray) (ta : Option Addr) (tn tc : Nat) (pa : Option Addr) (pn pc gB : Nat) (w : World) (hI : Inv w Q S N) (hN : N ≤ 100000000000) (hA : -9223372036854775808 ≤ A ∧ A ≤ 9223372036854775807) (hs : s.size ≤ 2000000) (hr : RoomAt w gB s) (hgB : ¬ S.own gB) :
    Calls Tryz.prog 8 #[.pointer (some ⟨Q, 0, none⟩), opV 14 A s ta tn tc pa pn pc, .slice (some ⟨gB, 0, none⟩) s.size (s.size + 2)] w fun e w' => StepAns w w' Q N S e := by
  have HI : Hid (Inv w Q S N) := hI
  have hb1 : Below w.heap.size w (w.alloc (opCells 14 A s ta tn tc pa pn pc)) := (Below.refl _ _).alloc (Nat.le_refl _) _
  have HB1 : Hid (Below w.heap.size w (w.alloc (opCells 14 A s ta tn tc pa pn pc))) := hb1
  have hq := hI.qlt
  obtain ⟨vo, vc, hv⟩ := row_form (hI.row 1 (by omega))
  have HV : Hid (S.v 1 = .slice vo (S.xs 1).length vc) := hv
  have hKN := hI.len 1 (by omega)
  have hbx := hI.box
  rw [hv] at hbx
  obtain ⟨⟨x0, x1, _⟩, _⟩ := five_cell hbx
  clear hv hbx
  generalize hK : (S.xs 1).length = K at *
  have HK : Hid ((S.xs 1).length = K) := hK
  clear hK
  have HL : Hid (s.data.toList.length = s.size) := rfl
  have HR1 : Hid (RoomAt (w.alloc (opCells 14 A s ta tn tc pa pn pc)) gB s) := hr.below hb1
  have HGB : Hid (¬ S.own gB) := hgB
  clear hr hgB
  clear hb1
  by_cases h0 : K = 0
  · have hKb : ((K : Int) == 0) = true := by simp [h0]
    clear hI
    go_enter Tryz.func8, Tryz.ntmps8
    go_wp2
    go_ret
    exact ⟨rfl, S, (HI.out.below HB1.out).more (by omega), Moved.below HB1.out _⟩
  · have hKb : ((K : Int) == 0) = false := by simp; omega
    have hpr := pickI_range A K (by omega)
    obtain ⟨i, hpi⟩ : ∃ i : Nat, pickI A (K : Int) = (i : Int) := ⟨(pickI A K).toNat, by omega⟩
    rw [hpi] at hpr
    have hiK : i < K := by omega
    have HPK : Hid (∀ W, Calls Tryz.prog 18 #[.int .i64 A, .int .i64 K] W fun e w' => e = .returned (.int .i64 (i : Int)) ∧ w' = W) := fun W => by
      rw [← hpi]
      exact lpick_calls A K W hA (by omega) (by omega)
    obtain ⟨g, cap, hv, hgl, hc⟩ := hI.cellAt (j := 1) (k := i) (by omega) (by rw [HK.out]; exact hiK)
    obtain ⟨cb, hcb, hL⟩ := hI.good 1 i (by omega) (by rw [HK.out]; exact hiK)
    rw [HV.out] at hv
    simp at hv
    obtain ⟨rfl, -, rfl⟩ := hv
    rw [hcb] at hc
    have HL0 : Hid (LDec w cb (S.bl (2 + 1, i))) := hL
    have HCB : Hid ((S.xs 1).getD i (.int .i64 0) = .pointer (some ⟨cb, 0, none⟩)) := hcb
    have hcl : cb < w.heap.size := hL.lt.2 cb hL.lt.1
    have hiI : 0 ≤ (i : Int) ∧ (i : Int) < (K : Int) := by omega
    clear hI hL hcb hpi
    go_enter Tryz.func8, Tryz.ntmps8
    go_wp2_with fail
    go_quiet ((go_at_call 18; exact Calls.quiet_of_same (HPK.out _)))
    have HBN : Hid (Below w.heap.size w ((w.alloc (opCells 14 A s ta tn tc pa pn pc)).drewN nq)) := below_drewN HB1.out nq
    have hkd : ((w.alloc (opCells 14 A s ta tn tc pa pn pc)).drewN nq).cell? ⟨w.heap.size, 0, none⟩ = some (.int .i64 14) := by simp
    have hkl : w.heap.size < ((w.alloc (opCells 14 A s ta tn tc pa pn pc)).drewN nq).heap.size := by simp
    have HRN : Hid (RoomAt ((w.alloc (opCells 14 A s ta tn tc pa pn pc)).drewN nq) gB s) := HR1.out
    clear HR1
    generalize (w.alloc (opCells 14 A s ta tn tc pa pn pc)).drewN nq = w1 at *
    have HL1 : Hid (LDec w1 cb (S.bl (2 + 1, i))) := HL0.out.kept (KeptBut.below (F := []) HBN.out) (fun k _ h => by simp at h)
    have HI1 : Hid (Inv w1 Q S N) := HI.out.below HBN.out
    clear HL0 HPK
    go_wp2_with fail
    have h1 := lfeed_calls cb (S.bl (2 + 1, i)) s.data.toList (some ⟨gB, 0, none⟩) (s.size + 2) w1 HL1.out HRN.out.bytes (fun h => by cases h) (by rw [HL.out]; omega) (fun _ b off h hm => by simp at h; obtain ⟨rfl, _⟩ := h; exact HGB.out ⟨_, hm⟩)
    rw [HL.out] at h1
    refine Calls.mono h1 ?_
    clear h1
    rintro e w2 ⟨vy, y, F', rfl, hoy, hL2, hF2, hyF, hkb⟩
    have HD : Hid _ := side_done (j := 1) (i := i) (F' := F') HI1.out (by omega) hkb (by rw [HCB.out]; exact ⟨cb, rfl, hL2⟩) hF2 hL2.lt.2
    obtain ⟨yo, yc, rfl⟩ := hoy.form
    have HOY : Hid (OwnB w2 w1.heap.size (.slice yo y.length yc) y) := hoy
    have HNO : Hid (∀ k, (Value.slice yo y.length yc).ownBlock = some k → ¬ (S.turn 1 i F').own k) := fun k hk ho => by
      rcases St.turn_own ho with h1 | h1
      · have h2 := HI1.out.own_lt h1
        have h3 := (World.ownsRow.lt hoy k hk).1
        omega
      · exact hyF k hk h1
    have hs12 := hkb.size
    clear hL2 hF2 hkb hoy hyF
    go_wp2_with fail
    refine (mine_calls Q N (S.turn 1 i F') yo y yc w1.heap.size w2 HD.out.1 (by omega) HOY.out HNO.out).mono ?_
    rintro e w3 ⟨rfl, S3, hI3, hM3⟩
    have HI3 : Hid (Inv w3 Q S3 (N + 1)) := hI3
    have HM3 : Hid (Moved w w3 S.own S3.own) := (((Moved.below HBN.out _).trans HD.out.2).news (p := fun k => (S.turn 1 i F').own k ∨ (Value.slice yo y.length yc).ownBlock = some k) (fun k hk => by
      rcases hk with h1 | h1
      · exact .inl h1
      · have h3 := (World.ownsRow.lt HOY.out k h1).1
        exact .inr (by omega))).trans hM3
    clear hI3 hM3
    go_wp2
    go_ret
    exact ⟨rfl, S3, HI3.out.more (by omega), HM3.out⟩
set_option maxHeartbeats 2000000 in
theorem sides15_calls (Q N : Nat) (S : St) (A : Int) (s : ByteArray) (ta : Option Addr) (tn tc : Nat) (pa : Option Addr) (pn pc : Nat) (vb : Value) (w : World) (hI : Inv w Q S N) (hN : N ≤ 100000000000) (hA : -9223372036854775808 ≤ A ∧ A ≤ 9223372036854775807) :
    Calls Tryz.prog 8 #[.pointer (some ⟨Q, 0, none⟩), opV 15 A s ta tn tc pa pn pc, vb] w fun e w' => StepAns w w' Q N S e := by
  have HI : Hid (Inv w Q S N) := hI
  have hb1 : Below w.heap.size w (w.alloc (opCells 15 A s ta tn tc pa pn pc)) := (Below.refl _ _).alloc (Nat.le_refl _) _
  have HB1 : Hid (Below w.heap.size w (w.alloc (opCells 15 A s ta tn tc pa pn pc))) := hb1
  have hq := hI.qlt
  obtain ⟨vo, vc, hv⟩ := row_form (hI.row 1 (by omega))
  have HV : Hid (S.v 1 = .slice vo (S.xs 1).length vc) := hv
  have hKN := hI.len 1 (by omega)
  have hbx := hI.box
  rw [hv] at hbx
  obtain ⟨⟨x0, x1, _⟩, _⟩ := five_cell hbx
  clear hv hbx
  generalize hK : (S.xs 1).length = K at *
  have HK : Hid ((S.xs 1).length = K) := hK
  clear hK
  clear hb1
  by_cases h0 : K = 0
  · have hKb : ((K : Int) == 0) = true := by simp [h0]
    clear hI
    go_enter Tryz.func8, Tryz.ntmps8
    go_wp2
    go_ret
    exact ⟨rfl, S, (HI.out.below HB1.out).more (by omega), Moved.below HB1.out _⟩
  · have hKb : ((K : Int) == 0) = false := by simp; omega
    have hpr := pickI_range A K (by omega)
    obtain ⟨i, hpi⟩ : ∃ i : Nat, pickI A (K : Int) = (i : Int) := ⟨(pickI A K).toNat, by omega⟩
    rw [hpi] at hpr
    have hiK : i < K := by omega
    have HPK : Hid (∀ W, Calls Tryz.prog 18 #[.int .i64 A, .int .i64 K] W fun e w' => e = .returned (.int .i64 (i : Int)) ∧ w' = W) := fun W => by
      rw [← hpi]
      exact lpick_calls A K W hA (by omega) (by omega)
    obtain ⟨g, cap, hv, hgl, hc⟩ := hI.cellAt (j := 1) (k := i) (by omega) (by rw [HK.out]; exact hiK)
    obtain ⟨cb, hcb, hL⟩ := hI.good 1 i (by omega) (by rw [HK.out]; exact hiK)
    rw [HV.out] at hv
    simp at hv
    obtain ⟨rfl, -, rfl⟩ := hv
    rw [hcb] at hc
    have HL0 : Hid (LDec w cb (S.bl (2 + 1, i))) := hL
    have HCB : Hid ((S.xs 1).getD i (.int .i64 0) = .pointer (some ⟨cb, 0, none⟩)) := hcb
    have hcl : cb < w.heap.size := hL.lt.2 cb hL.lt.1
    have hiI : 0 ≤ (i : Int) ∧ (i : Int) < (K : Int) := by omega
    clear hI hL hcb hpi
    go_enter Tryz.func8, Tryz.ntmps8
    go_wp2_with fail
    go_quiet ((go_at_call 18; exact Calls.quiet_of_same (HPK.out _)))
    have HBN : Hid (Below w.heap.size w ((w.alloc (opCells 15 A s ta tn tc pa pn pc)).drewN nq)) := below_drewN HB1.out nq
    have hkd : ((w.alloc (opCells 15 A s ta tn tc pa pn pc)).drewN nq).cell? ⟨w.heap.size, 0, none⟩ = some (.int .i64 15) := by simp
    have hkl : w.heap.size < ((w.alloc (opCells 15 A s ta tn tc pa pn pc)).drewN nq).heap.size := by simp
    generalize (w.alloc (opCells 15 A s ta tn tc pa pn pc)).drewN nq = w1 at *
    have HL1 : Hid (LDec w1 cb (S.bl (2 + 1, i))) := HL0.out.kept (KeptBut.below (F := []) HBN.out) (fun k _ h => by simp at h)
    have HI1 : Hid (Inv w1 Q S N) := HI.out.below HBN.out
    clear HL0 HPK
    go_wp2_with fail
    have h1 := lend_calls cb (S.bl (2 + 1, i)) w1 HL1.out
    refine Calls.mono h1 ?_
    clear h1
    rintro e w2 ⟨F', rfl, hL2, hF2, hkb⟩
    have HD : Hid _ := side_done (j := 1) (i := i) (F' := F') HI1.out (by omega) hkb (by rw [HCB.out]; exact ⟨cb, rfl, hL2⟩) hF2 hL2.lt.2
    clear hL2 hF2 hkb
    go_wp2
    go_ret
    exact ⟨rfl, _, HD.out.1.more (by omega), (Moved.below HBN.out _).trans HD.out.2⟩
set_option maxHeartbeats 2000000 in
theorem sides11_calls (Q N : Nat) (S : St) (A : Int) (s : ByteArray) (ta : Option Addr) (tn tc : Nat) (pa : Option Addr) (pn pc gB : Nat) (w : World) (hI : Inv w Q S N) (hN : N ≤ 100000000000) (hA : -9223372036854775808 ≤ A ∧ A ≤ 9223372036854775807) (hs : s.size ≤ 2000000) (hr : RoomAt w gB s) (hgB : ¬ S.own gB) :
    Calls Tryz.prog 8 #[.pointer (some ⟨Q, 0, none⟩), opV 11 A s ta tn tc pa pn pc, .slice (some ⟨gB, 0, none⟩) s.size (s.size + 2)] w fun e w' => StepAns w w' Q N S e := by
  have HI : Hid (Inv w Q S N) := hI
  have hb1 : Below w.heap.size w (w.alloc (opCells 11 A s ta tn tc pa pn pc)) := (Below.refl _ _).alloc (Nat.le_refl _) _
  have HB1 : Hid (Below w.heap.size w (w.alloc (opCells 11 A s ta tn tc pa pn pc))) := hb1
  have hq := hI.qlt
  obtain ⟨vo, vc, hv⟩ := row_form (hI.row 0 (by omega))
  have HV : Hid (S.v 0 = .slice vo (S.xs 0).length vc) := hv
  have hKN := hI.len 0 (by omega)
  have hbx := hI.box
  rw [hv] at hbx
  obtain ⟨⟨x0, x1, _⟩, _⟩ := five_cell hbx
  clear hv hbx
  generalize hK : (S.xs 0).length = K at *
  have HK : Hid ((S.xs 0).length = K) := hK
  clear hK
  have HL : Hid (s.data.toList.length = s.size) := rfl
  have HR1 : Hid (RoomAt (w.alloc (opCells 11 A s ta tn tc pa pn pc)) gB s) := hr.below hb1
  have HGB : Hid (¬ S.own gB) := hgB
  clear hr hgB
  clear hb1
  by_cases h0 : K = 0
  · have hKb : ((K : Int) == 0) = true := by simp [h0]
    clear hI
    go_enter Tryz.func8, Tryz.ntmps8
    go_wp2
    go_ret
    exact ⟨rfl, S, (HI.out.below HB1.out).more (by omega), Moved.below HB1.out _⟩
  · have hKb : ((K : Int) == 0) = false := by simp; omega
    have hpr := pickI_range A K (by omega)
    obtain ⟨i, hpi⟩ : ∃ i : Nat, pickI A (K : Int) = (i : Int) := ⟨(pickI A K).toNat, by omega⟩
    rw [hpi] at hpr
    have hiK : i < K := by omega
    have HPK : Hid (∀ W, Calls Tryz.prog 18 #[.int .i64 A, .int .i64 K] W fun e w' => e = .returned (.int .i64 (i : Int)) ∧ w' = W) := fun W => by
      rw [← hpi]
      exact lpick_calls A K W hA (by omega) (by omega)
    obtain ⟨g, cap, hv, hgl, hc⟩ := hI.cellAt (j := 0) (k := i) (by omega) (by rw [HK.out]; exact hiK)
    obtain ⟨cb, hcb, hL⟩ := hI.good 0 i (by omega) (by rw [HK.out]; exact hiK)
    rw [HV.out] at hv
    simp at hv
    obtain ⟨rfl, -, rfl⟩ := hv
    rw [hcb] at hc
    have HL0 : Hid (LEnc w cb (S.bl (2 + 0, i))) := hL
    have HCB : Hid ((S.xs 0).getD i (.int .i64 0) = .pointer (some ⟨cb, 0, none⟩)) := hcb
    have hcl : cb < w.heap.size := hL.lt.2 cb hL.lt.1
    have hiI : 0 ≤ (i : Int) ∧ (i : Int) < (K : Int) := by omega
    clear hI hL hcb hpi
    go_enter Tryz.func8, Tryz.ntmps8
    go_wp2_with fail
    go_quiet ((go_at_call 18; exact Calls.quiet_of_same (HPK.out _)))
    have HBN : Hid (Below w.heap.size w ((w.alloc (opCells 11 A s ta tn tc pa pn pc)).drewN nq)) := below_drewN HB1.out nq
    have hkd : ((w.alloc (opCells 11 A s ta tn tc pa pn pc)).drewN nq).cell? ⟨w.heap.size, 0, none⟩ = some (.int .i64 11) := by simp
    have hkl : w.heap.size < ((w.alloc (opCells 11 A s ta tn tc pa pn pc)).drewN nq).heap.size := by simp
    have HRN : Hid (RoomAt ((w.alloc (opCells 11 A s ta tn tc pa pn pc)).drewN nq) gB s) := HR1.out
    clear HR1
    generalize (w.alloc (opCells 11 A s ta tn tc pa pn pc)).drewN nq = w1 at *
    have HL1 : Hid (LEnc w1 cb (S.bl (2 + 0, i))) := HL0.out.kept (KeptBut.below (F := []) HBN.out) (fun k _ h => by simp at h)
    have HI1 : Hid (Inv w1 Q S N) := HI.out.below HBN.out
    clear HL0 HPK
    go_wp2_with fail
    have h1 := lwrite_calls cb (S.bl (2 + 0, i)) s.data.toList (some ⟨gB, 0, none⟩) (s.size + 2) w1 HL1.out HRN.out.bytes (fun h => by cases h) (by rw [HL.out]; omega) (fun b off h hm => by simp at h; obtain ⟨rfl, _⟩ := h; exact HGB.out ⟨_, hm⟩)
    rw [HL.out] at h1
    refine Calls.mono h1 ?_
    clear h1
    rintro e w2 ⟨vy, y, F', rfl, hoy, hL2, hF2, hyF, hkb⟩
    have HD : Hid _ := side_done (j := 0) (i := i) (F' := F') HI1.out (by omega) hkb (by rw [HCB.out]; exact ⟨cb, rfl, hL2⟩) hF2 hL2.lt.2
    obtain ⟨yo, yc, rfl⟩ := hoy.form
    have HOY : Hid (OwnB w2 w1.heap.size (.slice yo y.length yc) y) := hoy
    have HNO : Hid (∀ k, (Value.slice yo y.length yc).ownBlock = some k → ¬ (S.turn 0 i F').own k) := fun k hk ho => by
      rcases St.turn_own ho with h1 | h1
      · have h2 := HI1.out.own_lt h1
        have h3 := (World.ownsRow.lt hoy k hk).1
        omega
      · exact hyF k hk h1
    have hs12 := hkb.size
    clear hL2 hF2 hkb hoy hyF
    go_wp2_with fail
    refine (mine_calls Q N (S.turn 0 i F') yo y yc w1.heap.size w2 HD.out.1 (by omega) HOY.out HNO.out).mono ?_
    rintro e w3 ⟨rfl, S3, hI3, hM3⟩
    have HI3 : Hid (Inv w3 Q S3 (N + 1)) := hI3
    have HM3 : Hid (Moved w w3 S.own S3.own) := (((Moved.below HBN.out _).trans HD.out.2).news (p := fun k => (S.turn 0 i F').own k ∨ (Value.slice yo y.length yc).ownBlock = some k) (fun k hk => by
      rcases hk with h1 | h1
      · exact .inl h1
      · have h3 := (World.ownsRow.lt HOY.out k h1).1
        exact .inr (by omega))).trans hM3
    clear hI3 hM3
    go_wp2
    go_ret
    exact ⟨rfl, S3, HI3.out.more (by omega), HM3.out⟩
set_option maxHeartbeats 2000000 in
theorem sides12_calls (Q N : Nat) (S : St) (A : Int) (s : ByteArray) (ta : Option Addr) (tn tc : Nat) (pa : Option Addr) (pn pc : Nat) (vb : Value) (w : World) (hI : Inv w Q S N) (hN : N ≤ 100000000000) (hA : -9223372036854775808 ≤ A ∧ A ≤ 9223372036854775807) :
    Calls Tryz.prog 8 #[.pointer (some ⟨Q, 0, none⟩), opV 12 A s ta tn tc pa pn pc, vb] w fun e w' => StepAns w w' Q N S e := by
  have HI : Hid (Inv w Q S N) := hI
  have hb1 : Below w.heap.size w (w.alloc (opCells 12 A s ta tn tc pa pn pc)) := (Below.refl _ _).alloc (Nat.le_refl _) _
  have HB1 : Hid (Below w.heap.size w (w.alloc (opCells 12 A s ta tn tc pa pn pc))) := hb1
  have hq := hI.qlt
  obtain ⟨vo, vc, hv⟩ := row_form (hI.row 0 (by omega))
  have HV : Hid (S.v 0 = .slice vo (S.xs 0).length vc) := hv
  have hKN := hI.len 0 (by omega)
  have hbx := hI.box
  rw [hv] at hbx
  obtain ⟨⟨x0, x1, _⟩, _⟩ := five_cell hbx
  clear hv hbx
  generalize hK : (S.xs 0).length = K at *
  have HK : Hid ((S.xs 0).length = K) := hK
  clear hK
  clear hb1
  by_cases h0 : K = 0
  · have hKb : ((K : Int) == 0) = true := by simp [h0]
    clear hI
    go_enter Tryz.func8, Tryz.ntmps8
    go_wp2
    go_ret
    exact ⟨rfl, S, (HI.out.below HB1.out).more (by omega), Moved.below HB1.out _⟩
  · have hKb : ((K : Int) == 0) = false := by simp; omega
    have hpr := pickI_range A K (by omega)
    obtain ⟨i, hpi⟩ : ∃ i : Nat, pickI A (K : Int) = (i : Int) := ⟨(pickI A K).toNat, by omega⟩
    rw [hpi] at hpr
    have hiK : i < K := by omega
    have HPK : Hid (∀ W, Calls Tryz.prog 18 #[.int .i64 A, .int .i64 K] W fun e w' => e = .returned (.int .i64 (i : Int)) ∧ w' = W) := fun W => by
      rw [← hpi]
      exact lpick_calls A K W hA (by omega) (by omega)
    obtain ⟨g, cap, hv, hgl, hc⟩ := hI.cellAt (j := 0) (k := i) (by omega) (by rw [HK.out]; exact hiK)
    obtain ⟨cb, hcb, hL⟩ := hI.good 0 i (by omega) (by rw [HK.out]; exact hiK)
    rw [HV.out] at hv
    simp at hv
    obtain ⟨rfl, -, rfl⟩ := hv
    rw [hcb] at hc
    have HL0 : Hid (LEnc w cb (S.bl (2 + 0, i))) := hL
    have HCB : Hid ((S.xs 0).getD i (.int .i64 0) = .pointer (some ⟨cb, 0, none⟩)) := hcb
    have hcl : cb < w.heap.size := hL.lt.2 cb hL.lt.1
    have hiI : 0 ≤ (i : Int) ∧ (i : Int) < (K : Int) := by omega
    clear hI hL hcb hpi
    go_enter Tryz.func8, Tryz.ntmps8
    go_wp2_with fail
    go_quiet ((go_at_call 18; exact Calls.quiet_of_same (HPK.out _)))
    have HBN : Hid (Below w.heap.size w ((w.alloc (opCells 12 A s ta tn tc pa pn pc)).drewN nq)) := below_drewN HB1.out nq
    have hkd : ((w.alloc (opCells 12 A s ta tn tc pa pn pc)).drewN nq).cell? ⟨w.heap.size, 0, none⟩ = some (.int .i64 12) := by simp
    have hkl : w.heap.size < ((w.alloc (opCells 12 A s ta tn tc pa pn pc)).drewN nq).heap.size := by simp
    generalize (w.alloc (opCells 12 A s ta tn tc pa pn pc)).drewN nq = w1 at *
    have HL1 : Hid (LEnc w1 cb (S.bl (2 + 0, i))) := HL0.out.kept (KeptBut.below (F := []) HBN.out) (fun k _ h => by simp at h)
    have HI1 : Hid (Inv w1 Q S N) := HI.out.below HBN.out
    clear HL0 HPK
    go_wp2_with fail
    have h1 := lshut_calls cb (S.bl (2 + 0, i)) w1 HL1.out
    refine Calls.mono h1 ?_
    clear h1
    rintro e w2 ⟨vy, y, F', rfl, hoy, hL2, hF2, hyF, hkb⟩
    have HD : Hid _ := side_done (j := 0) (i := i) (F' := F') HI1.out (by omega) hkb (by rw [HCB.out]; exact ⟨cb, rfl, hL2⟩) hF2 hL2.lt.2
    obtain ⟨yo, yc, rfl⟩ := hoy.form
    have HOY : Hid (OwnB w2 w1.heap.size (.slice yo y.length yc) y) := hoy
    have HNO : Hid (∀ k, (Value.slice yo y.length yc).ownBlock = some k → ¬ (S.turn 0 i F').own k) := fun k hk ho => by
      rcases St.turn_own ho with h1 | h1
      · have h2 := HI1.out.own_lt h1
        have h3 := (World.ownsRow.lt hoy k hk).1
        omega
      · exact hyF k hk h1
    have hs12 := hkb.size
    clear hL2 hF2 hkb hoy hyF
    go_wp2_with fail
    refine (mine_calls Q N (S.turn 0 i F') yo y yc w1.heap.size w2 HD.out.1 (by omega) HOY.out HNO.out).mono ?_
    rintro e w3 ⟨rfl, S3, hI3, hM3⟩
    have HI3 : Hid (Inv w3 Q S3 (N + 1)) := hI3
    have HM3 : Hid (Moved w w3 S.own S3.own) := (((Moved.below HBN.out _).trans HD.out.2).news (p := fun k => (S.turn 0 i F').own k ∨ (Value.slice yo y.length yc).ownBlock = some k) (fun k hk => by
      rcases hk with h1 | h1
      · exact .inl h1
      · have h3 := (World.ownsRow.lt HOY.out k h1).1
        exact .inr (by omega))).trans hM3
    clear hI3 hM3
    go_wp2
    go_ret
    exact ⟨rfl, S3, HI3.out.more (by omega), HM3.out⟩
end Go.Proofs.YtnpnaglgllcpfaaGreat

/- A slice of tokens that came in: what it reads as, and the tokens in memory. -/
namespace Go.Proofs.YtnpnaglgllcpfaaGreat
set_option maxRecDepth 100000
open Go.ChangeShapes Go.WideShapes Go.ChangeAt Go.RowKit Go.Deep

theorem cellsTok : Tryz.prog.cellsOf 42 = 3 := by kernel_rfl
theorem cellsInt : Tryz.prog.cellsOf 3 = 1 := by kernel_rfl

section
variable {H : Type} {enc : TypeId × Value → H} {w : World} {base : Nat} {spare : Nat → Bool} {held : Bool}

theorem open_tok {fuel : Nat} {cs : List Value} {x : DataW H × List MemPlace} (h : DataW.trod enc Tryz.prog w base spare held fuel 42 cs = some x) :
    ∃ t : Tok, cs = [.int .i64 t.len, .int .i64 t.dist, .int .i64 t.byte] := by
  obtain ⟨y0, y1, y2, n, _, hl, h0, h1, h2⟩ := trod_struct3 Tryz.underlying42 h
  rw [cellsTok] at hl
  match cs, hl with
  | [c0, c1, c2], _ =>
    simp [cellsInt] at h0 h1 h2
    obtain ⟨a0, e0, _, _⟩ := DataW.trod_int Tryz.underlying3 h0
    obtain ⟨a1, e1, _, _⟩ := DataW.trod_int Tryz.underlying3 h1
    obtain ⟨a2, e2, _, _⟩ := DataW.trod_int Tryz.underlying3 h2
    simp at e0 e1 e2
    subst e0 e1 e2
    exact ⟨⟨a0, a1, a2⟩, rfl⟩

theorem open_toks {fuel : Nat} {cs : List Value} {x : DataW H × List MemPlace} (h : DataW.trod enc Tryz.prog w base spare held fuel 32 cs = some x) :
    ∃ (a : Option Addr) (cap : Nat) (ts : List Tok), cs = [.slice a ts.length cap] ∧ ts.length ≤ 9223372036854775807 ∧ ToksAt w a ts := by
  rcases open_slice Tryz.underlying32 h with ⟨rfl, _⟩ | ⟨a, len, cap, m, n, D, Pl, rfl, hb, hl, hm, hmm, _, hx⟩
  · exact ⟨none, 0, [], rfl, by simp, .inl rfl⟩
  · have hlm : len ≤ m := by rw [hmm]; split <;> omega
    have each : ∀ i, i < len → ∃ t : Tok, w.cell? (a.add (i * 3)) = some (.int .i64 t.len) ∧ w.cell? (a.add (i * 3 + 1)) = some (.int .i64 t.dist) ∧ w.cell? (a.add (i * 3 + 2)) = some (.int .i64 t.byte) := by
      intro i hi
      obtain ⟨cs', h1, h2⟩ := hx i (by omega)
      rw [cellsTok] at h1
      obtain ⟨_, _, hcell⟩ := World.cells?_some h1
      obtain ⟨t, rfl⟩ := open_tok h2
      have e0 := hcell 0 (by omega)
      have e1 := hcell 1 (by omega)
      have e2 := hcell 2 (by omega)
      rw [add_add] at e0 e1 e2
      exact ⟨t, by simpa using e0, by simpa using e1, by simpa using e2⟩
    have inh : Inhabited Tok := ⟨⟨0, 0, 0⟩⟩
    obtain ⟨T, hT⟩ := choose_lt each
    have hlen : ((List.range len).map T).length = len := by simp
    refine ⟨some a, cap, (List.range len).map T, by rw [hlen], by rw [hlen]; unfold maxLen at hm; omega, ?_⟩
    rcases Nat.eq_zero_or_pos len with h0 | h0
    · subst h0; exact .inl rfl
    · obtain ⟨b, off, spot⟩ := a
      have hs : spot = none := by simpa [Addr.add] using World.cell?_spot (hT 0 h0).1
      subst hs
      refine .inr ⟨b, off, rfl, ?_, fun i hi => ?_⟩
      · have := World.block_lt_of_cell? w _ (hT 0 h0).1
        simpa [Addr.add] using this
      · have hi' : i < len := by simpa using hi
        have hadd : ∀ j, (⟨b, off, none⟩ : Addr).add j = ⟨b, off + j, none⟩ := fun j => by unfold Addr.add; split <;> simp_all
        have := hT i hi'
        rw [hadd, hadd, hadd] at this
        simp only [List.getElem_map, List.getElem_range]
        simpa [Nat.add_assoc] using this
end
end Go.Proofs.YtnpnaglgllcpfaaGreat

/- A script that came in: its steps in memory, and how long their parts may be. -/
namespace Go.Proofs.YtnpnaglgllcpfaaGreat
set_option maxRecDepth 100000
open Go.ChangeShapes Go.WideShapes Go.ChangeAt Go.RowKit Go.Deep

/-- One step, as it was handed in. -/
structure OpR where
  kind : Int
  A : Int
  s : ByteArray
  ta : Option Addr
  ts : List Tok
  tc : Nat
  pa : Option Addr
  ps : List (List Tok)
  pc : Nat
def OpR.At (w : World) (b o : Nat) (r : OpR) : Prop :=
  w.cell? ⟨b, o, none⟩ = some (.int .i64 r.kind) ∧ w.cell? ⟨b, o + 1, none⟩ = some (.int .i64 r.A) ∧ w.cell? ⟨b, o + 2, none⟩ = some (.string r.s) ∧
    w.cell? ⟨b, o + 3, none⟩ = some (.slice r.ta r.ts.length r.tc) ∧ w.cell? ⟨b, o + 4, none⟩ = some (.slice r.pa r.ps.length r.pc)
structure OpR.Ok (w : World) (r : OpR) : Prop where
  kind : -9223372036854775808 ≤ r.kind ∧ r.kind ≤ 9223372036854775807
  A : -9223372036854775808 ≤ r.A ∧ r.A ≤ 9223372036854775807
  s : r.s.size ≤ 2000000
  ts : ToksAt w r.ta r.ts
  tl : r.ts.length ≤ 2000000
  ps : PiecesAt w r.pa r.ps
  pl : r.ps.length ≤ 2000000
  ml : ∀ m, m < r.ps.length → (r.ps.getD m []).length ≤ 2000000
def ScriptAt (w : World) (a : Option Addr) (l : List OpR) : Prop :=
  l = [] ∨ ∃ b off, a = some ⟨b, off, none⟩ ∧ b < w.heap.size ∧ ∀ i (hi : i < l.length), l[i].At w b (off + i * 5) ∧ l[i].Ok w

theorem bulk_pos {H : Type} (d : DataW H) : 0 < Rows.uptoBulk d := by
  cases d with
  | lit l => cases l <;> simp [Rows.uptoBulk]
  | _ => simp [Rows.uptoBulk]
theorem bulk_mem {H : Type} {d : DataW H} : ∀ {l : List (DataW H)}, d ∈ l → Rows.uptoBulk d ≤ Rows.uptoBulkAll l
  | x :: r, h => by
    rw [Rows.uptoBulkAll]
    rcases List.mem_cons.1 h with rfl | h1
    · omega
    · have := bulk_mem h1
      omega
theorem bulk_len {H : Type} : ∀ l : List (DataW H), l.length ≤ Rows.uptoBulkAll l
  | [] => Nat.zero_le _
  | x :: r => by
    rw [Rows.uptoBulkAll, List.length_cons]
    have h1 := bulk_pos x
    have h2 := bulk_len r
    omega
theorem bulk_slice {H : Type} {es sp : List (DataW H)} : Rows.uptoBulkAll es ≤ Rows.uptoBulk (.slice es sp) := by
  simp only [Rows.uptoBulk]
  omega

theorem cellsToks1 : Tryz.prog.cellsOf 32 = 1 := by kernel_rfl
theorem cellsPcs1 : Tryz.prog.cellsOf 27 = 1 := by kernel_rfl
theorem cellsStr1 : Tryz.prog.cellsOf 9 = 1 := by kernel_rfl
theorem cellsOp : Tryz.prog.cellsOf 34 = 5 := by kernel_rfl

section
variable {H : Type} {enc : TypeId × Value → H} {w : World} {base : Nat} {spare : Nat → Bool} {held : Bool}

theorem open_toksB {fuel : Nat} {cs : List Value} {x : DataW H × List MemPlace} (h : DataW.trod enc Tryz.prog w base spare held fuel 32 cs = some x) (hB : Rows.uptoBulk x.1 ≤ 1048576) :
    ∃ (a : Option Addr) (cap : Nat) (ts : List Tok), cs = [.slice a ts.length cap] ∧ ts.length ≤ 1048576 ∧ ToksAt w a ts := by
  obtain ⟨a, cap, ts, rfl, _, ht⟩ := open_toks h
  refine ⟨a, cap, ts, rfl, ?_, ht⟩
  rcases open_slice Tryz.underlying32 h with ⟨h1, _⟩ | ⟨a, len, cap, m, n, D, Pl, h1, hb, hl, hm, hmm, rfl, hx⟩
  · simp at h1
    simp [h1]
  · simp at h1
    dsimp only at hB
    have h2 := bulk_len ((List.range len).map D)
    have h3 := bulk_slice (es := (List.range len).map D) (sp := (List.range (m - len)).map fun j => D (len + j))
    simp only [List.length_map, List.length_range] at h2
    omega
theorem open_piecesB {fuel : Nat} {cs : List Value} {x : DataW H × List MemPlace} (h : DataW.trod enc Tryz.prog w base spare held fuel 27 cs = some x) (hB : Rows.uptoBulk x.1 ≤ 1048576) :
    ∃ (a : Option Addr) (cap : Nat) (ps : List (List Tok)), cs = [.slice a ps.length cap] ∧ ps.length ≤ 1048576 ∧ PiecesAt w a ps ∧ ∀ m, m < ps.length → (ps.getD m []).length ≤ 1048576 := by
  rcases open_slice1 Tryz.underlying27 cellsToks1 h with ⟨rfl, _⟩ | ⟨a, len, cap, m, n, V, D, Pl, rfl, hb, hl, hm, hmm, rfl, hx⟩
  · exact ⟨none, 0, [], rfl, by simp, .inl rfl, fun m hm => by simp at hm⟩
  · have hlm : len ≤ m := by rw [hmm]; split <;> omega
    dsimp only at hB
    have hbs := bulk_slice (es := (List.range len).map D) (sp := (List.range (m - len)).map fun j => D (len + j))
    have each : ∀ i, i < len → ∃ ts : List Tok, ∃ ai ci, w.cell? (a.add i) = some (.slice ai ts.length ci) ∧ ts.length ≤ 1048576 ∧ ToksAt w ai ts := by
      intro i hi
      obtain ⟨h1, h2⟩ := hx i (by omega)
      have hmem : D i ∈ (List.range len).map D := List.mem_map.2 ⟨i, by simpa using hi, rfl⟩
      have hbm := bulk_mem hmem
      obtain ⟨ai, ci, ts, hv, hlen, hat⟩ := open_toksB h2 (by show Rows.uptoBulk (D i) ≤ _; omega)
      simp at hv
      exact ⟨ts, ai, ci, by rw [h1, hv], hlen, hat⟩
    obtain ⟨T, hT⟩ := choose_lt each
    have hlen : ((List.range len).map T).length = len := by simp
    have hbl := bulk_len ((List.range len).map D)
    simp only [List.length_map, List.length_range] at hbl
    refine ⟨some a, cap, (List.range len).map T, by rw [hlen], by rw [hlen]; omega, ?_, fun i hi => ?_⟩
    · rcases Nat.eq_zero_or_pos len with h0 | h0
      · subst h0; exact .inl rfl
      · obtain ⟨b, off, spot⟩ := a
        obtain ⟨ai, ci, hc0, _⟩ := hT 0 h0
        have hs : spot = none := by simpa [Addr.add] using World.cell?_spot hc0
        subst hs
        refine .inr ⟨b, off, rfl, ?_, fun i hi => ?_⟩
        · have := World.block_lt_of_cell? w _ hc0
          simpa [Addr.add] using this
        · have hi' : i < len := by simpa using hi
          have hadd : (⟨b, off, none⟩ : Addr).add i = ⟨b, off + i, none⟩ := by unfold Addr.add; split <;> simp_all
          obtain ⟨ai', ci', g1, g2, g3⟩ := hT i hi'
          rw [hadd] at g1
          have e : ((List.range len).map T).getD i [] = T i := by simp [List.getD, hi']
          rw [e]
          exact ⟨ai', ci', g1, by omega, g3⟩
    · have hi' : i < len := by simpa using hi
      have e : ((List.range len).map T).getD i [] = T i := by simp [List.getD, hi']
      rw [e]
      obtain ⟨_, _, _, g2, _⟩ := hT i hi'
      exact g2
theorem open_op {fuel : Nat} {cs : List Value} {x : DataW H × List MemPlace} (h : DataW.trod enc Tryz.prog w base spare held fuel 34 cs = some x) (hB : Rows.uptoBulk x.1 ≤ 1048576) :
    ∃ r : OpR, cs = [.int .i64 r.kind, .int .i64 r.A, .string r.s, .slice r.ta r.ts.length r.tc, .slice r.pa r.ps.length r.pc] ∧ r.Ok w := by
  obtain ⟨xs, n, _, rfl, hl, hlen, hf⟩ := DataW.trod_struct Tryz.underlying34 h
  rw [cellsOp] at hl
  match xs, hlen, cs, hl with
  | [y0, y1, y2, y3, y4], _, [c0, c1, c2, c3, c4], _ =>
    have h0 := hf 0 _ rfl
    have h1 := hf 1 _ rfl
    have h2 := hf 2 _ rfl
    have h3 := hf 3 _ rfl
    have h4 := hf 4 _ rfl
    simp [cellsInt, cellsStr1, cellsToks1, cellsPcs1] at h0 h1 h2 h3 h4
    simp only [List.map_cons, List.map_nil, Rows.uptoBulk, Rows.uptoBulkAll] at hB
    obtain ⟨a0, e0, _, r0⟩ := DataW.trod_int Tryz.underlying3 h0
    obtain ⟨a1, e1, _, r1⟩ := DataW.trod_int Tryz.underlying3 h1
    obtain ⟨s, e2, d2, _⟩ := DataW.trod_string Tryz.underlying9 h2
    obtain ⟨ta, tc, ts, e3, l3, t3⟩ := open_toksB h3 (by omega)
    obtain ⟨pa, pc, ps, e4, l4, t4, m4⟩ := open_piecesB h4 (by omega)
    simp at e0 e1 e2 e3 e4
    subst e0 e1 e2 e3 e4 d2
    simp only [Rows.uptoBulk] at hB
    have hsz : s.data.toList.length = s.size := rfl
    refine ⟨⟨a0, a1, s, ta, ts, tc, pa, ps, pc⟩, rfl, ⟨?_, ?_, by show s.size ≤ _; omega, t3, by show ts.length ≤ _; omega, t4, by show ps.length ≤ _; omega, fun m hm => by have := m4 m hm; show (ps.getD m []).length ≤ _; omega⟩⟩
    · simpa [Lit.wf, IntKind.min, IntKind.max, IntKind.signed, IntKind.bits] using r0
    · simpa [Lit.wf, IntKind.min, IntKind.max, IntKind.signed, IntKind.bits] using r1
theorem open_script {fuel : Nat} {cs : List Value} {x : DataW H × List MemPlace} (h : DataW.trod enc Tryz.prog w base spare held fuel 22 cs = some x) (hB : Rows.uptoBulk x.1 ≤ 1048576) :
    ∃ (a : Option Addr) (cap : Nat) (l : List OpR), cs = [.slice a l.length cap] ∧ l.length ≤ 1048576 ∧ ScriptAt w a l := by
  rcases open_slice Tryz.underlying22 h with ⟨rfl, _⟩ | ⟨a, len, cap, m, n, D, Pl, rfl, hb, hl, hm, hmm, rfl, hx⟩
  · exact ⟨none, 0, [], rfl, by simp, .inl rfl⟩
  · have hlm : len ≤ m := by rw [hmm]; split <;> omega
    dsimp only at hB
    have hbs := bulk_slice (es := (List.range len).map D) (sp := (List.range (m - len)).map fun j => D (len + j))
    have each : ∀ i, i < len → ∃ r : OpR, r.Ok w ∧ w.cell? (a.add (i * 5)) = some (.int .i64 r.kind) ∧ w.cell? (a.add (i * 5 + 1)) = some (.int .i64 r.A) ∧ w.cell? (a.add (i * 5 + 2)) = some (.string r.s) ∧ w.cell? (a.add (i * 5 + 3)) = some (.slice r.ta r.ts.length r.tc) ∧ w.cell? (a.add (i * 5 + 4)) = some (.slice r.pa r.ps.length r.pc) := by
      intro i hi
      obtain ⟨cs', h1, h2⟩ := hx i (by omega)
      rw [cellsOp] at h1
      have hmem : D i ∈ (List.range len).map D := List.mem_map.2 ⟨i, by simpa using hi, rfl⟩
      have hbm := bulk_mem hmem
      obtain ⟨_, _, hcell⟩ := World.cells?_some h1
      obtain ⟨r, rfl, hr⟩ := open_op h2 (by show Rows.uptoBulk (D i) ≤ _; omega)
      have e0 := hcell 0 (by omega)
      have e1 := hcell 1 (by omega)
      have e2 := hcell 2 (by omega)
      have e3 := hcell 3 (by omega)
      have e4 := hcell 4 (by omega)
      rw [add_add] at e0 e1 e2 e3 e4
      exact ⟨r, hr, by simpa using e0, by simpa using e1, by simpa using e2, by simpa using e3, by simpa using e4⟩
    have inh : Inhabited OpR := ⟨⟨0, 0, .empty, none, [], 0, none, [], 0⟩⟩
    obtain ⟨R, hR⟩ := choose_lt each
    have hlen : ((List.range len).map R).length = len := by simp
    have hbl := bulk_len ((List.range len).map D)
    simp only [List.length_map, List.length_range] at hbl
    refine ⟨some a, cap, (List.range len).map R, by rw [hlen], by rw [hlen]; omega, ?_⟩
    rcases Nat.eq_zero_or_pos len with h0 | h0
    · subst h0; exact .inl rfl
    · obtain ⟨b, off, spot⟩ := a
      have hs : spot = none := by simpa [Addr.add] using World.cell?_spot (hR 0 h0).2.1
      subst hs
      refine .inr ⟨b, off, rfl, ?_, fun i hi => ?_⟩
      · have := World.block_lt_of_cell? w _ (hR 0 h0).2.1
        simpa [Addr.add] using this
      · have hi' : i < len := by simpa using hi
        have hadd : ∀ j, (⟨b, off, none⟩ : Addr).add j = ⟨b, off + j, none⟩ := fun j => by unfold Addr.add; split <;> simp_all
        have := hR i hi'
        rw [hadd, hadd, hadd, hadd, hadd] at this
        simp only [List.getElem_map, List.getElem_range]
        refine ⟨?_, this.1⟩
        simpa [OpR.At, Nat.add_assoc] using this.2
end
end Go.Proofs.YtnpnaglgllcpfaaGreat

/- The law All's hand-in, out of its walk. -/
namespace Go.Proofs.YtnpnaglgllcpfaaGreat
set_option maxRecDepth 100000
open Go.ChangeShapes Go.WideShapes Go.ChangeAt Go.RowKit Go.Deep

/-- What the walk gives, of every script whose parts are not too long. -/
def AllLaw : Prop := ∀ (a : Option Addr) (l : List OpR) (cap : Nat) (w : World), l.length ≤ 1048576 → ScriptAt w a l →
  Calls Tryz.prog 3 #[.slice a l.length cap] w fun e w' => e = .returned (.bool true) ∧ Below w.heap.size w w'
namespace Law
theorem own : ownKnob Tryz.prog.godebug = none := by kernel_rfl
theorem laidOut : laidOutB Tryz.prog = true := by kernel_rfl
theorem lifted (law : AllLaw) (os : Os) (started : os.Started) (H : Type) (enc : TypeId × Value → H) (F : Stop.Interp) :
    ReturnsInHanded {} Tryz.checked os 3 .any ((Rows.OpenSpec.upto Rows.allSpec).pre6 enc Tryz.prog Tryz.f3 Rows.allUptoRow.domain false) (((Rows.OpenSpec.upto Rows.allSpec).at F).post enc Tryz.prog Tryz.f3 false true false false) := by
  refine returnsInHanded_of_cond (C := Tryz.checked) (s := Rows.OpenSpec.upto Rows.allSpec) (k := Rows.uptoSmall) rfl own started (by kernel_rfl) Tryz.func3
    (OpenSpec.witness (enc := enc) (C := Tryz.checked) (s := Rows.OpenSpec.upto Rows.allSpec) (k := Rows.uptoSmall) rfl false ⟨#[], #[.slice none 0 0], []⟩ 8 (by kernel_rfl) (by kernel_rfl) (by kernel_rfl)
      (x := ([.nil], [], [])) (by kernel_rfl) rfl (by kernel_rfl)) ?_
  intro W base args ds gs before hval0 hW hcnd hk _
  have hval : ∀ (j : Nat) t v, Tryz.f3.params[j]? = some t → args[j]? = some v → Value.okWide Tryz.prog W .any base t v := hval0
  have hW' : DataW.Whole enc Tryz.prog Tryz.f3.params.toList Rows.allSpec.vars false W args.toList ds gs before := hW
  obtain ⟨p, q, hA0, hV, rfl, hfz, hnd⟩ := hW
  have hA : DataW.TrodAll enc Tryz.prog W 0 (fun _ => true) true Tryz.f3.params.toList args.toList ds p := hA0
  rw [Tryz.params3] at hA hval
  obtain ⟨v0, vs0, d0, ds0, p0, q0, hargs, rfl, rfl, h0, r0⟩ := trodAll_cons hA
  obtain ⟨rfl, rfl, rfl⟩ := trodAll_nil r0
  obtain rfl : args = #[v0] := by cases args; simp_all
  obtain ⟨rfl, rfl⟩ := trodVars_none hV
  obtain ⟨a0, len0, cap0, rfl⟩ := okWide_slice Tryz.underlying22 (hval 0 22 v0 rfl rfl)
  have hbulk : Rows.uptoBulkAll [d0] ≤ 1048576 := of_decide_eq_true hk
  simp only [Rows.uptoBulkAll] at hbulk
  have k0 := h0
  have lt0 : ∀ x ∈ p0, x.block < W.heap.size := by obtain ⟨m, hm⟩ := k0; exact DataW.trod_lt m _ _ _ hm
  obtain ⟨l, hl, hlen, hat⟩ : ∃ l : List OpR, len0 = l.length ∧ l.length ≤ 1048576 ∧ ScriptAt W a0 l := by
    obtain ⟨fuel, hf⟩ := h0
    obtain ⟨a, cap, l, hcs, hlen, hat⟩ := open_script hf (by dsimp only; omega)
    simp [Value.cells] at hcs
    obtain ⟨rfl, rfl, rfl⟩ := hcs
    exact ⟨l, rfl, hlen, hat⟩
  subst hl
  clear hA0 hval0
  refine (law a0 l cap0 W hlen hat).mono fun e W' ⟨he, bel⟩ => ?_
  subst he
  exact ⟨_, rfl, _, _, _, [], _, [], hW', trodAll_mk1 (shut_bool Tryz.underlying4 _), (trodAll_cons_mk (Below.trod laidOut (by kernel_rfl) (of_decide_eq_true (by kernel_rfl)) k0 bel lt0) trodAll_mk0), rfl, bel.frame _, fun h => by cases h⟩
end Law
theorem all_upto_of (law : AllLaw) : Rows.AllUptoSaid :=
  OpenClaim.holds_of_cond 3 Tryz.f3 rfl rfl rfl rfl rfl rfl rfl ⟨rfl, rfl, rfl, rfl, rfl⟩ rfl rfl rfl rfl rfl (by kernel_rfl) Tryz.func3 (by kernel_rfl)
    (of_decide_eq_true (by kernel_rfl)) (by unfold Func.isWrapper; first | (rw [if_pos (by decide +kernel)]; kernel_rfl) | (rw [if_neg (by decide +kernel)]; exact ⟨rfl, rfl⟩))
    (fun os started H enc _ F => Law.lifted law os started H enc F)
end Go.Proofs.YtnpnaglgllcpfaaGreat

/- The law All, out of its steps. -/
namespace Go.Proofs.YtnpnaglgllcpfaaGreat
set_option maxRecDepth 100000
open Go.RowKit

/-- What a step answers. -/
def StepLaw : Prop := ∀ (Q N : Nat) (S : St) (r : OpR) (W0 w : World), Inv w Q S N → N ≤ 100000000000 → Below W0.heap.size W0 w → (∀ k, S.own k → W0.heap.size ≤ k) → r.Ok W0 →
  Calls Tryz.prog 4 #[.pointer (some ⟨Q, 0, none⟩), .agg #[.int .i64 r.kind, .int .i64 r.A, .string r.s, .slice r.ta r.ts.length r.tc, .slice r.pa r.ps.length r.pc]] w
    fun e w' => e = .returned (.bool true) ∧ ∃ S', Inv w' Q S' (N + 5000) ∧ Moved w w' S.own S'.own

/-- A World that holds nothing. -/
def St.nil (Q : Nat) : St where
  v := fun _ => .slice none 0 0
  xs := fun _ => []
  bl := fun y => if y = (0, 0) then [Q] else []
theorem St.nil_own {Q k : Nat} (h : (St.nil Q).own k) : k = Q := by
  obtain ⟨x, hx⟩ := h
  simp only [St.nil] at hx
  split at hx <;> simp at hx
  exact hx
theorem Inv.nil {w : World} {Q : Nat} (h : w.heap[Q]? = some (.cells #[.slice none 0 0, .slice none 0 0, .slice none 0 0, .slice none 0 0, .slice none 0 0] 30 (0, 0))) : Inv w Q (St.nil Q) 0 where
  box := h
  q := by simp [St.nil]
  row j _ := World.ownsRow_nil _ _ _ _
  rowb j k _ hk := by simp [St.nil, Value.ownBlock] at hk
  good j i _ hi := by simp [St.nil] at hi
  apart x y k hx hy := by
    simp only [St.nil] at hx hy
    split at hx <;> simp at hx
    split at hy <;> simp at hy
    simp_all
  lt x k hx := by
    have := St.nil_own ⟨x, hx⟩
    subst this
    exact (Array.getElem?_eq_some_iff.1 h).1
  len j _ := by simp [St.nil]

set_option maxHeartbeats 1000000 in
theorem allLaw_of (step : StepLaw) : AllLaw := by
  intro a l cap w hl hs
  have HS : Hid (ScriptAt w a l) := hs
  have HST : Hid StepLaw := step
  clear hs step
  have HI0 : Hid (Inv (w.alloc (.cells #[.slice none 0 0, .slice none 0 0, .slice none 0 0, .slice none 0 0, .slice none 0 0] 30)) w.heap.size (St.nil w.heap.size) 0) := Inv.nil (heap_alloc_new w _)
  have HB0 : Hid (Below w.heap.size w (w.alloc (.cells #[.slice none 0 0, .slice none 0 0, .slice none 0 0, .slice none 0 0, .slice none 0 0] 30))) := (Below.refl _ _).alloc (Nat.le_refl _) _
  go_enter Tryz.func3, Tryz.ntmps3
  go_wp2_with fail
  go_loopg [4, 5] l.length (fun g iv _ wr => ∃ (j : Nat) (S : St), j ≤ l.length ∧ g = l.length - j ∧ iv = .int .i64 j ∧ Hid (Inv wr w.heap.size S (5000 * j)) ∧ Hid (∀ k, S.own k → w.heap.size ≤ k) ∧ Hid (Below w.heap.size w wr))
  case atStart => exact ⟨0, St.nil w.heap.size, by omega, rfl, rfl, HI0, fun k hk => by have := St.nil_own hk; omega, HB0⟩
  case round =>
    clear HI0 HB0
    obtain ⟨j, S, hj, hg, rfl, HI, HOW, HBW⟩ := hrel
    have HG : Hid _ := hg
    have hsw := HBW.out.size
    clear hg
    by_cases hlt : j < l.length
    · obtain ⟨b, off, rfl, hbl, ⟨c0, c1, c2, c3, c4⟩, hok⟩ : ∃ b off, a = some ⟨b, off, none⟩ ∧ b < wr.heap.size ∧ l[j].At wr b (off + j * 5) ∧ Hid (l[j].Ok w) := by
        rcases HS.out with h | ⟨b, off, h1, h2, h3⟩
        · subst h; simp at hlt
        · obtain ⟨h4, h5⟩ := h3 j hlt
          refine ⟨b, off, h1, by omega, ?_, h5⟩
          unfold OpR.At at h4 ⊢
          rw [HBW.out.cell (p := ⟨b, _, none⟩) h2, HBW.out.cell (p := ⟨b, _, none⟩) h2, HBW.out.cell (p := ⟨b, _, none⟩) h2, HBW.out.cell (p := ⟨b, _, none⟩) h2, HBW.out.cell (p := ⟨b, _, none⟩) h2]
          exact h4
      generalize l[j] = r at *
      have hjr : (j : Int) < (l.length : Int) := by omega
      have hb0 : (0 : Int) ≤ (j : Int) ∧ (j : Int) < (l.length : Int) := by omega
      have HCALL : Hid _ := HST.out w.heap.size (5000 * j) S r w wr HI.out (by omega) HBW.out HOW.out hok.out
      go_wp2_with fail
      refine Calls.mono HCALL.out ?_
      rintro e w2 ⟨rfl, S2, hI2, hM2⟩
      have HI2 : Hid (Inv w2 w.heap.size S2 (5000 * j + 5000)) := hI2
      obtain ⟨hb2, ho2⟩ := hM2.low HBW.out hsw HOW.out
      have HB2 : Hid (Below w.heap.size w w2) := hb2
      have HO2 : Hid (∀ k, S2.own k → w.heap.size ≤ k) := ho2
      clear hI2 hM2 hb2 ho2 HCALL c0 c1 c2 c3 c4
      go_wp2_with fail
      refine (looks_calls w.heap.size (5000 * j + 5000) S2 w2 HI2.out (by omega)).mono ?_
      rintro e w3 ⟨rfl, n, rfl⟩
      go_wp2
      go_roundg (l.length - (j + 1))
      case measure => have := HG.out; omega
      case rel => exact ⟨j + 1, S2, by omega, rfl, by go_num, (HI2.out.below (below_drewN (Below.refl _ _) n)).more (by omega), HO2, below_drewN HB2.out n⟩
    · have hlt' : ¬ (j : Int) < (l.length : Int) := by omega
      go_wp2
      go_ret
      exact ⟨rfl, HBW.out⟩
end Go.Proofs.YtnpnaglgllcpfaaGreat
