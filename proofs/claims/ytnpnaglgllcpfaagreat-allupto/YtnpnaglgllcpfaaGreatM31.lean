/-
  Lemmas for the law All: Gv, Gw, OpenStrs, Fd2, Wd3, Gy.
-/
import Derived.Test.YtnpnaglgllcpfaaGreatM30
import Derived.Test.YtnpnaglgllcpfaaGreatM10
import Derived.Deep.RegionWith
import Derived.Test.YtnpnaglgllcpfaaGreatM04
import Derived.ProofKit
import Derived.OpenShut
import Derived.ChangeOld
import Derived.Carry
import Derived.Deep.Slices
import Derived.Deep.Strs
import Derived.Test.YtnpnaglgllcpfaaGreatM17
import Derived.Lib.SlBytesConst
import Derived.Test.YtnpnaglgllcpfaaGreatM25
/- The step of the other calls on bytes. -/
namespace Go.Proofs.YtnpnaglgllcpfaaGreat
set_option maxRecDepth 100000
open Go.RowKit

/-- How a step ends. -/
def StepAns (w w' : World) (Q N : Nat) (S : St) (e : Ending) : Prop := e = .returned (.bool true) ∧ ∃ S', Inv w' Q S' (N + 5000) ∧ Moved w w' S.own S'.own
theorem moved_nil {w w' : World} {o o' : Nat → Prop} (h : Moved w w' (fun k => o k ∨ (Value.slice none 0 0).ownBlock = some k) o') : Moved w w' o o' :=
  h.mono (fun k hk => by rcases hk with h1 | h1; exact h1; cases h1) (fun _ h => h)
theorem RoomAt.below {w w' : World} {g : Nat} {s : ByteArray} (h : RoomAt w g s) (hb : Below w.heap.size w w') : RoomAt w' g s := (hb.block g (block_lt h)).trans h
abbrev opCells (kind A : Int) (s : ByteArray) (ta : Option Addr) (tn tc : Nat) (pa : Option Addr) (pn pc : Nat) : Obj := .cells #[.int .i64 kind, .int .i64 A, .string s, .slice ta tn tc, .slice pa pn pc] 34

set_option maxHeartbeats 1000000 in
theorem plain5_calls (Q N : Nat) (S : St) (A : Int) (s : ByteArray) (ta : Option Addr) (tn tc : Nat) (pa : Option Addr) (pn pc gB : Nat) (w : World) (hI : Inv w Q S N) (hN : N ≤ 100000000000) (hs : s.size ≤ 2000000) (hr : RoomAt w gB s) :
    Calls Tryz.prog 9 #[.pointer (some ⟨Q, 0, none⟩), opV 5 A s ta tn tc pa pn pc, .slice (some ⟨gB, 0, none⟩) s.size (s.size + 2)] w fun e w' => StepAns w w' Q N S e := by
  have HI : Hid (Inv w Q S N) := hI
  have HL : Hid (s.data.toList.length = s.size) := rfl
  have hb1 : Below w.heap.size w (w.alloc (opCells 5 A s ta tn tc pa pn pc)) := (Below.refl _ _).alloc (Nat.le_refl _) _
  have HR1 : Hid (RoomAt (w.alloc (opCells 5 A s ta tn tc pa pn pc)) gB s) := hr.below hb1
  have HB1 : Hid (Below w.heap.size w (w.alloc (opCells 5 A s ta tn tc pa pn pc))) := hb1
  have hs1 : (w.alloc (opCells 5 A s ta tn tc pa pn pc)).heap.size = w.heap.size + 1 := by simp
  have hq := hI.qlt
  clear hI hr hb1
  go_enter Tryz.func9, Tryz.ntmps9
  go_wp2_with fail
  generalize w.alloc (opCells 5 A s ta tn tc pa pn pc) = w1 at *
  have h1 := opened2_calls (some ⟨gB, 0, none⟩) s.data.toList (s.size + 2) w1 (by rw [HL.out]; omega) HR1.out.bytes
  rw [HL.out] at h1
  refine Calls.mono h1 ?_
  clear h1
  rintro e w2 ⟨hb2, v, out, rfl, ho2⟩
  obtain ⟨vo, vc, rfl⟩ := ho2.form
  have HO2 : Hid (OwnB w2 w1.heap.size (.slice vo out.length vc) out) := ho2
  have HB2 : Hid (Below w.heap.size w w2) := HB1.out.trans (hb2.mono (by omega))
  clear hb2 ho2
  go_wp2_with fail
  refine (mine_calls Q N S vo out vc w1.heap.size w2 (HI.out.below HB2.out) (by omega) HO2.out (fun k hk ho => by
    have h1 := (World.ownsRow.lt HO2.out k hk).1
    have h2 := HI.out.own_lt ho
    omega)).mono ?_
  rintro e w3 ⟨rfl, S3, hI3, hM3⟩
  have HI3 : Hid (Inv w3 Q S3 (N + 1)) := hI3
  have HM3 : Hid (Moved w w3 S.own S3.own) := moved_mine HB2.out (by omega) (fun k hk => (World.ownsRow.lt HO2.out k hk).1) hM3
  clear hI3 hM3
  go_wp2_with fail
  refine (told_calls Q (N + 1) S3 none [] 0 0 w3 HI3.out (by omega) (World.ownsRow_nil _ _ _ _) (fun k hk => by cases hk)).mono ?_
  rintro e w4 ⟨rfl, S4, hI4, hM4⟩
  have HI4 : Hid (Inv w4 Q S4 (N + 1 + 1)) := hI4
  have HM4 : Hid (Moved w w4 S.own S4.own) := HM3.out.trans (moved_nil hM4)
  clear hI4 hM4
  go_wp2
  go_ret
  exact ⟨rfl, S4, HI4.out.more (by omega), HM4.out⟩
set_option maxHeartbeats 1000000 in
theorem plain9_calls (Q N : Nat) (S : St) (A : Int) (s : ByteArray) (ta : Option Addr) (tn tc : Nat) (pa : Option Addr) (pn pc gB : Nat) (w : World) (hI : Inv w Q S N) (hN : N ≤ 100000000000) (hs : s.size ≤ 2000000) (hr : RoomAt w gB s) :
    Calls Tryz.prog 9 #[.pointer (some ⟨Q, 0, none⟩), opV 9 A s ta tn tc pa pn pc, .slice (some ⟨gB, 0, none⟩) s.size (s.size + 2)] w fun e w' => StepAns w w' Q N S e := by
  have HI : Hid (Inv w Q S N) := hI
  have HL : Hid (s.data.toList.length = s.size) := rfl
  have hb1 : Below w.heap.size w (w.alloc (opCells 9 A s ta tn tc pa pn pc)) := (Below.refl _ _).alloc (Nat.le_refl _) _
  have HR1 : Hid (RoomAt (w.alloc (opCells 9 A s ta tn tc pa pn pc)) gB s) := hr.below hb1
  have HB1 : Hid (Below w.heap.size w (w.alloc (opCells 9 A s ta tn tc pa pn pc))) := hb1
  have hs1 : (w.alloc (opCells 9 A s ta tn tc pa pn pc)).heap.size = w.heap.size + 1 := by simp
  have hq := hI.qlt
  clear hI hr hb1
  go_enter Tryz.func9, Tryz.ntmps9
  go_wp2_with fail
  generalize w.alloc (opCells 9 A s ta tn tc pa pn pc) = w1 at *
  have h1 := compressed3_calls (some ⟨gB, 0, none⟩) s.data.toList (s.size + 2) w1 (by rw [HL.out]; omega) (by rw [HL.out]; omega) HR1.out.bytes
  rw [HL.out] at h1
  refine Calls.mono h1 ?_
  clear h1
  rintro e w2 ⟨hb2, v, out, rfl, ho2⟩
  obtain ⟨vo, vc, rfl⟩ := ho2.form
  have HO2 : Hid (OwnB w2 w1.heap.size (.slice vo out.length vc) out) := ho2
  have HB2 : Hid (Below w.heap.size w w2) := HB1.out.trans (hb2.mono (by omega))
  clear hb2 ho2
  go_wp2_with fail
  refine (mine_calls Q N S vo out vc w1.heap.size w2 (HI.out.below HB2.out) (by omega) HO2.out (fun k hk ho => by
    have h1 := (World.ownsRow.lt HO2.out k hk).1
    have h2 := HI.out.own_lt ho
    omega)).mono ?_
  rintro e w3 ⟨rfl, S3, hI3, hM3⟩
  have HI3 : Hid (Inv w3 Q S3 (N + 1)) := hI3
  have HM3 : Hid (Moved w w3 S.own S3.own) := moved_mine HB2.out (by omega) (fun k hk => (World.ownsRow.lt HO2.out k hk).1) hM3
  clear hI3 hM3
  go_wp2_with fail
  refine (told_calls Q (N + 1) S3 none [] 0 0 w3 HI3.out (by omega) (World.ownsRow_nil _ _ _ _) (fun k hk => by cases hk)).mono ?_
  rintro e w4 ⟨rfl, S4, hI4, hM4⟩
  have HI4 : Hid (Inv w4 Q S4 (N + 1 + 1)) := hI4
  have HM4 : Hid (Moved w w4 S.own S4.own) := HM3.out.trans (moved_nil hM4)
  clear hI4 hM4
  go_wp2
  go_ret
  exact ⟨rfl, S4, HI4.out.more (by omega), HM4.out⟩
set_option maxHeartbeats 1000000 in
theorem plain6_calls (Q N : Nat) (S : St) (A : Int) (s : ByteArray) (ta : Option Addr) (tn tc : Nat) (pa : Option Addr) (pn pc gB : Nat) (w : World) (hI : Inv w Q S N) (hN : N ≤ 100000000000) (hs : s.size ≤ 2000000) (hr : RoomAt w gB s) :
    Calls Tryz.prog 9 #[.pointer (some ⟨Q, 0, none⟩), opV 6 A s ta tn tc pa pn pc, .slice (some ⟨gB, 0, none⟩) s.size (s.size + 2)] w fun e w' => StepAns w w' Q N S e := by
  have HI : Hid (Inv w Q S N) := hI
  have HL : Hid (s.data.toList.length = s.size) := rfl
  have hb1 : Below w.heap.size w (w.alloc (opCells 6 A s ta tn tc pa pn pc)) := (Below.refl _ _).alloc (Nat.le_refl _) _
  have HR1 : Hid (RoomAt (w.alloc (opCells 6 A s ta tn tc pa pn pc)) gB s) := hr.below hb1
  have HB1 : Hid (Below w.heap.size w (w.alloc (opCells 6 A s ta tn tc pa pn pc))) := hb1
  have hs1 : (w.alloc (opCells 6 A s ta tn tc pa pn pc)).heap.size = w.heap.size + 1 := by simp
  have hq := hI.qlt
  clear hI hr hb1
  go_enter Tryz.func9, Tryz.ntmps9
  go_wp2_with fail
  generalize w.alloc (opCells 6 A s ta tn tc pa pn pc) = w1 at *
  have h1 := parsed2_calls (some ⟨gB, 0, none⟩) s.data.toList (s.size + 2) w1 (by rw [HL.out]; omega) HR1.out.bytes
  rw [HL.out] at h1
  refine Calls.mono h1 ?_
  clear h1
  rintro e w2 ⟨hb2, v, ts, rfl, ho2⟩
  obtain ⟨vo, vc, rfl⟩ := ho2.form
  have HO2 : Hid (TokRow w2 w1.heap.size (.slice vo ts.length vc) ts) := ho2
  have HB2 : Hid (Below w.heap.size w w2) := HB1.out.trans (hb2.mono (by omega))
  clear hb2 ho2
  go_wp2_with fail
  refine (mine_calls Q N S none [] 0 0 w2 (HI.out.below HB2.out) (by omega) (World.ownsRow_nil _ _ _ _) (fun k hk => by cases hk)).mono ?_
  rintro e w3 ⟨rfl, S3, hI3, hM3⟩
  have HI3 : Hid (Inv w3 Q S3 (N + 1)) := hI3
  have hM3' := moved_nil hM3
  have HNO : Hid (∀ k, (Value.slice vo ts.length vc).ownBlock = some k → w1.heap.size ≤ k ∧ k < w2.heap.size ∧ ¬ S.own k) := fun k hk => by
    have h1 := World.ownsRow.lt HO2.out k hk
    refine ⟨h1.1, h1.2, fun ho => ?_⟩
    have h2 := HI.out.own_lt ho
    omega
  have HO3 : Hid (TokRow w3 w1.heap.size (.slice vo ts.length vc) ts) := row_same HO2.out (fun k hk => hM3'.heap k (HNO.out k hk).2.1 (HNO.out k hk).2.2)
  have HM23 : Hid (Moved w2 w3 S.own S3.own) := hM3'
  clear hI3 hM3 hM3'
  go_wp2_with fail
  refine (told_calls Q (N + 1) S3 vo ts vc w1.heap.size w3 HI3.out (by omega) HO3.out (fun k hk ho => by
    have h1 := HNO.out k hk
    rcases HM23.out.new k ho with h2 | h2
    · exact h1.2.2 h2
    · omega)).mono ?_
  rintro e w4 ⟨rfl, S4, hI4, hM4⟩
  have HI4 : Hid (Inv w4 Q S4 (N + 1 + 1)) := hI4
  have HM4 : Hid (Moved w w4 S.own S4.own) := ((Moved.below HB2.out S.own).trans HM23.out).news (p := fun k => S3.own k ∨ (Value.slice vo ts.length vc).ownBlock = some k) (fun k hk => by
    rcases hk with h1 | h1
    · exact .inl h1
    · exact .inr (by have := (HNO.out k h1).1; omega)) |>.trans hM4
  clear hI4 hM4
  go_wp2
  go_ret
  exact ⟨rfl, S4, HI4.out.more (by omega), HM4.out⟩
set_option maxHeartbeats 1000000 in
theorem plain8_calls (Q N : Nat) (S : St) (A : Int) (s : ByteArray) (ta : Option Addr) (tn tc : Nat) (pa : Option Addr) (pn pc gB : Nat) (w : World) (hI : Inv w Q S N) (hN : N ≤ 100000000000) (hs : s.size ≤ 2000000) (hr : RoomAt w gB s) :
    Calls Tryz.prog 9 #[.pointer (some ⟨Q, 0, none⟩), opV 8 A s ta tn tc pa pn pc, .slice (some ⟨gB, 0, none⟩) s.size (s.size + 2)] w fun e w' => StepAns w w' Q N S e := by
  have HI : Hid (Inv w Q S N) := hI
  have HL : Hid (s.data.toList.length = s.size) := rfl
  have hb1 : Below w.heap.size w (w.alloc (opCells 8 A s ta tn tc pa pn pc)) := (Below.refl _ _).alloc (Nat.le_refl _) _
  have HR1 : Hid (RoomAt (w.alloc (opCells 8 A s ta tn tc pa pn pc)) gB s) := hr.below hb1
  have HB1 : Hid (Below w.heap.size w (w.alloc (opCells 8 A s ta tn tc pa pn pc))) := hb1
  have hs1 : (w.alloc (opCells 8 A s ta tn tc pa pn pc)).heap.size = w.heap.size + 1 := by simp
  have hq := hI.qlt
  clear hI hr hb1
  go_enter Tryz.func9, Tryz.ntmps9
  go_wp2_with fail
  generalize w.alloc (opCells 8 A s ta tn tc pa pn pc) = w1 at *
  have h1 := numbered2_calls (some ⟨gB, 0, none⟩) s.data.toList (s.size + 2) A w1 (by rw [HL.out]; omega) HR1.out.bytes
  rw [HL.out] at h1
  refine Calls.mono h1 ?_
  clear h1
  rintro e w2 ⟨hb2, v, ts, rfl, ho2⟩
  obtain ⟨vo, vc, rfl⟩ := ho2.form
  have HO2 : Hid (TokRow w2 w1.heap.size (.slice vo ts.length vc) ts) := ho2
  have HB2 : Hid (Below w.heap.size w w2) := HB1.out.trans (hb2.mono (by omega))
  clear hb2 ho2
  go_wp2_with fail
  refine (mine_calls Q N S none [] 0 0 w2 (HI.out.below HB2.out) (by omega) (World.ownsRow_nil _ _ _ _) (fun k hk => by cases hk)).mono ?_
  rintro e w3 ⟨rfl, S3, hI3, hM3⟩
  have HI3 : Hid (Inv w3 Q S3 (N + 1)) := hI3
  have hM3' := moved_nil hM3
  have HNO : Hid (∀ k, (Value.slice vo ts.length vc).ownBlock = some k → w1.heap.size ≤ k ∧ k < w2.heap.size ∧ ¬ S.own k) := fun k hk => by
    have h1 := World.ownsRow.lt HO2.out k hk
    refine ⟨h1.1, h1.2, fun ho => ?_⟩
    have h2 := HI.out.own_lt ho
    omega
  have HO3 : Hid (TokRow w3 w1.heap.size (.slice vo ts.length vc) ts) := row_same HO2.out (fun k hk => hM3'.heap k (HNO.out k hk).2.1 (HNO.out k hk).2.2)
  have HM23 : Hid (Moved w2 w3 S.own S3.own) := hM3'
  clear hI3 hM3 hM3'
  go_wp2_with fail
  refine (told_calls Q (N + 1) S3 vo ts vc w1.heap.size w3 HI3.out (by omega) HO3.out (fun k hk ho => by
    have h1 := HNO.out k hk
    rcases HM23.out.new k ho with h2 | h2
    · exact h1.2.2 h2
    · omega)).mono ?_
  rintro e w4 ⟨rfl, S4, hI4, hM4⟩
  have HI4 : Hid (Inv w4 Q S4 (N + 1 + 1)) := hI4
  have HM4 : Hid (Moved w w4 S.own S4.own) := ((Moved.below HB2.out S.own).trans HM23.out).news (p := fun k => S3.own k ∨ (Value.slice vo ts.length vc).ownBlock = some k) (fun k hk => by
    rcases hk with h1 | h1
    · exact .inl h1
    · exact .inr (by have := (HNO.out k h1).1; omega)) |>.trans hM4
  clear hI4 hM4
  go_wp2
  go_ret
  exact ⟨rfl, S4, HI4.out.more (by omega), HM4.out⟩
set_option maxHeartbeats 1000000 in
theorem plain7_calls (Q N : Nat) (S : St) (A : Int) (s : ByteArray) (ta : Option Addr) (tn tc : Nat) (pa : Option Addr) (pn pc gB : Nat) (w : World) (hI : Inv w Q S N) (_hN : N ≤ 100000000000) (hs : s.size ≤ 2000000) (hr : RoomAt w gB s) :
    Calls Tryz.prog 9 #[.pointer (some ⟨Q, 0, none⟩), opV 7 A s ta tn tc pa pn pc, .slice (some ⟨gB, 0, none⟩) s.size (s.size + 2)] w fun e w' => StepAns w w' Q N S e := by
  have HI : Hid (Inv w Q S N) := hI
  have HL : Hid (s.data.toList.length = s.size) := rfl
  have hb1 : Below w.heap.size w (w.alloc (opCells 7 A s ta tn tc pa pn pc)) := (Below.refl _ _).alloc (Nat.le_refl _) _
  have HR1 : Hid (RoomAt (w.alloc (opCells 7 A s ta tn tc pa pn pc)) gB s) := hr.below hb1
  have HB1 : Hid (Below w.heap.size w (w.alloc (opCells 7 A s ta tn tc pa pn pc))) := hb1
  have hs1 : (w.alloc (opCells 7 A s ta tn tc pa pn pc)).heap.size = w.heap.size + 1 := by simp
  have hq := hI.qlt
  clear hI hr hb1
  go_enter Tryz.func9, Tryz.ntmps9
  go_wp2_with fail
  generalize w.alloc (opCells 7 A s ta tn tc pa pn pc) = w1 at *
  have h1 := counted_calls ways_said (some ⟨gB, 0, none⟩) s.data.toList (s.size + 2) w1 (by rw [HL.out]; omega) HR1.out.bytes
  rw [HL.out] at h1
  refine Calls.mono h1 ?_
  clear h1
  rintro e w2 ⟨hb2, rfl⟩
  have HB2 : Hid (Below w.heap.size w w2) := HB1.out.trans (hb2.mono (by omega))
  clear hb2
  go_wp2
  go_ret
  exact ⟨rfl, S, (HI.out.below HB2.out).more (by omega), Moved.below HB2.out _⟩
set_option maxHeartbeats 1000000 in
theorem plain4_calls (Q N : Nat) (S : St) (A : Int) (s : ByteArray) (ta : Option Addr) (tn tc : Nat) (pa : Option Addr) (pn pc gB : Nat) (w : World) (hI : Inv w Q S N) (hN : N ≤ 100000000000) (hs : s.size ≤ 2000000) (hr : RoomAt w gB s) :
    Calls Tryz.prog 9 #[.pointer (some ⟨Q, 0, none⟩), opV 4 A s ta tn tc pa pn pc, .slice (some ⟨gB, 0, none⟩) s.size (s.size + 2)] w fun e w' => StepAns w w' Q N S e := by
  have HI : Hid (Inv w Q S N) := hI
  have HL : Hid (s.data.toList.length = s.size) := rfl
  have hb1 : Below w.heap.size w (w.alloc (opCells 4 A s ta tn tc pa pn pc)) := (Below.refl _ _).alloc (Nat.le_refl _) _
  have HR1 : Hid (RoomAt (w.alloc (opCells 4 A s ta tn tc pa pn pc)) gB s) := hr.below hb1
  have HB1 : Hid (Below w.heap.size w (w.alloc (opCells 4 A s ta tn tc pa pn pc))) := hb1
  have hs1 : (w.alloc (opCells 4 A s ta tn tc pa pn pc)).heap.size = w.heap.size + 1 := by simp
  have hq := hI.qlt
  clear hI hr hb1
  go_enter Tryz.func9, Tryz.ntmps9
  go_wp2_with fail
  generalize w.alloc (opCells 4 A s ta tn tc pa pn pc) = w1 at *
  have h1 := unpacked2_calls (some ⟨gB, 0, none⟩) s.data.toList (s.size + 2) w1 (by rw [HL.out]; omega) HR1.out.bytes
  rw [HL.out] at h1
  refine Calls.mono h1 ?_
  clear h1
  rintro e w2 ⟨hb2, v, ps, rfl, hpr, hpl⟩
  obtain ⟨vo, vc, hv, _⟩ := hpr.at
  subst hv
  have HO2 : Hid (PRow w2 w1.heap.size (.slice vo ps.length vc) ps) := hpr
  have HB2 : Hid (Below w.heap.size w w2) := HB1.out.trans (hb2.mono (by omega))
  clear hb2 hpr
  go_wp2_with fail
  refine (laid_calls Q N S vo ps vc w1.heap.size w2 (HI.out.below HB2.out) (by omega) hpl HO2.out (fun k ho => by
    have h2 := HI.out.own_lt ho
    omega)).mono ?_
  rintro e w3 ⟨rfl, S3, hI3, hM3⟩
  have HI3 : Hid (Inv w3 Q S3 (N + ps.length + 1)) := hI3
  have HM3 : Hid (Moved w w3 S.own S3.own) := ((Moved.below HB2.out S.own).news (p := fun k => S.own k ∨ w1.heap.size ≤ k) (fun k hk => by
    rcases hk with h1 | h1
    · exact .inl h1
    · exact .inr (by omega))).trans hM3
  clear hI3 hM3
  go_wp2
  go_ret
  exact ⟨rfl, S3, HI3.out.more (by omega), HM3.out⟩
end Go.Proofs.YtnpnaglgllcpfaaGreat

/- The step of Sum. -/
namespace Go.Proofs.YtnpnaglgllcpfaaGreat
set_option maxRecDepth 100000
open Go.RowKit

set_option maxHeartbeats 1000000 in
theorem plain1_calls (Q N : Nat) (S : St) (A : Int) (s : ByteArray) (ta : Option Addr) (tn tc : Nat) (pa : Option Addr) (pn pc gB : Nat) (w : World) (hI : Inv w Q S N) (_hN : N ≤ 100000000000) (hs : s.size ≤ 2000000) (hr : RoomAt w gB s) :
    Calls Tryz.prog 9 #[.pointer (some ⟨Q, 0, none⟩), opV 1 A s ta tn tc pa pn pc, .slice (some ⟨gB, 0, none⟩) s.size (s.size + 2)] w fun e w' => StepAns w w' Q N S e := by
  have HI : Hid (Inv w Q S N) := hI
  have HL : Hid (s.data.toList.length = s.size) := rfl
  have hb1 : Below w.heap.size w (w.alloc (opCells 1 A s ta tn tc pa pn pc)) := (Below.refl _ _).alloc (Nat.le_refl _) _
  have HR1 : Hid (RoomAt (w.alloc (opCells 1 A s ta tn tc pa pn pc)) gB s) := hr.below hb1
  have HB1 : Hid (Below w.heap.size w (w.alloc (opCells 1 A s ta tn tc pa pn pc))) := hb1
  have hs1 : (w.alloc (opCells 1 A s ta tn tc pa pn pc)).heap.size = w.heap.size + 1 := by simp
  have hq := hI.qlt
  clear hI hr hb1
  have hgB : gB < (w.alloc (opCells 1 A s ta tn tc pa pn pc)).heap.size := block_lt HR1.out
  have hconv := fun wx => run_bytes_of_string (P := Tryz.prog) wx 9 37 5 s Tryz.underlying9 Tryz.underlying37 Tryz.underlying5
  have HSM : Hid (∀ W : World, W.heap[gB]? = (w.alloc (opCells 1 A s ta tn tc pa pn pc)).heap[gB]? → Calls Tryz.prog 23 #[.slice (some ⟨gB, 0, none⟩) s.size (s.size + 2)] W fun e w' => e = .returned (.int .i64 (Plain.total s.data.toList)) ∧ w' = W) := fun W hW => by
    have h := sum_calls (some ⟨gB, 0, none⟩) s.data.toList (s.size + 2) W (by rw [HL.out]; omega) (RoomAt.bytes (hW.trans HR1.out))
    rw [HL.out] at h
    exact h
  have HRS : Hid (∀ cap mk, Calls Tryz.prog 24 #[.slice (some ⟨w.heap.size + 1, 0, none⟩) s.size cap] (((w.alloc (opCells 1 A s ta tn tc pa pn pc)).alloc (.cells (bytesRow s cap) 5 mk)).drew.drew) fun e w' => e = .returned (.int .i64 (Plain.total s.data.toList)) ∧ w' = ((w.alloc (opCells 1 A s ta tn tc pa pn pc)).alloc (.cells (bytesRow s cap) 5 mk)).drew.drew) := fun cap mk => by
    have hn := BytesAt.new s (w.alloc (opCells 1 A s ta tn tc pa pn pc)) cap mk
    rw [hs1] at hn
    have h := refSum_calls (some ⟨w.heap.size + 1, 0, none⟩) s.data.toList cap (((w.alloc (opCells 1 A s ta tn tc pa pn pc)).alloc (.cells (bytesRow s cap) 5 mk)).drew.drew) (by rw [HL.out]; omega) hn
    rw [HL.out] at h
    exact h
  go_enter Tryz.func9, Tryz.ntmps9
  go_wp2_with fail
  go_region_with (first
    | (go_at_call 23; refine (HSM.out _ ?_).mono ?_; (first | exact rfl | exact Below.heap_alloc _ _ _ hgB); rintro e w' ⟨rfl, rfl⟩)
    | (go_at_call 24; refine (HRS.out _ _).mono ?_; rintro e w' ⟨rfl, rfl⟩))
  all_goals (try go_wp2)
  all_goals go_ret
  all_goals
    have hbb := ((HB1.out.alloc (by omega) (.cells (bytesRow s (grownCap (w.alloc (opCells 1 A s ta tn tc pa pn pc)).drew s.size 0 5)) 5 ((bytesRow s (grownCap (w.alloc (opCells 1 A s ta tn tc pa pn pc)).drew s.size 0 5)).size, (bytesRow s (grownCap (w.alloc (opCells 1 A s ta tn tc pa pn pc)).drew s.size 0 5)).size + 1))).drew).drew
    exact ⟨rfl, S, (HI.out.below hbb).more (by omega), Moved.below hbb _⟩
end Go.Proofs.YtnpnaglgllcpfaaGreat

/- A slice of texts that came in: what it reads as, and the texts in memory. -/
namespace Go.Proofs.YtnpnaglgllcpfaaGreat
set_option maxRecDepth 100000
open Go.ChangeShapes Go.WideShapes Go.ChangeAt Go.RowKit Go.Deep

/-- Texts lie in memory, at a. -/
def StrsAt (w : World) (a : Option Addr) (l : List ByteArray) : Prop :=
  l = [] ∨ ∃ b off, a = some ⟨b, off, none⟩ ∧ b < w.heap.size ∧ ∀ i (hi : i < l.length), w.cell? ⟨b, off + i, none⟩ = some (.string l[i]) ∧ l[i].size ≤ 9223372036854775807
theorem StrsAt.below {w w' : World} {a : Option Addr} {l : List ByteArray} (h : StrsAt w a l) (hb : Below w.heap.size w w') : StrsAt w' a l := by
  rcases h with h | ⟨b, off, h1, h2, h⟩
  · exact .inl h
  · exact .inr ⟨b, off, h1, Nat.lt_of_lt_of_le h2 hb.size, fun i hi => by rw [hb.cell (p := ⟨b, _, none⟩) h2]; exact h i hi⟩

theorem cellsStr : Tryz.prog.cellsOf 9 = 1 := by kernel_rfl
end Go.Proofs.YtnpnaglgllcpfaaGreat

/- The law Feeds, of texts in memory. -/
namespace Go.Proofs.YtnpnaglgllcpfaaGreat
set_option maxRecDepth 100000
open Go.RowKit

theorem LDec.new {w : World} {cb q : Nat} (h1 : LBox w cb q (.slice none 0 0) 0 0 false) (h2 : DecBox w q true 0 0 0 (.slice none 0 0)) : LDec w cb [cb, q] :=
  ⟨q, .slice none 0 0, 0, 0, .inl ⟨[], [], 4, .slice none 0 0, h1, DecAt.new h2, World.ownsRow_nil _ _ _ _, fun k hk => by simp [Value.ownBlock] at hk, by simp [Value.ownBlock]⟩⟩

theorem keptBelow {w wr w' : World} {F : List Nat} {B : Nat} (h : Below B w wr) (hB : B ≤ wr.heap.size) (k : KeptBut wr w' F) (hF : ∀ i ∈ F, B ≤ i) : Below B w w' :=
  h.trans ⟨k.os, k.tape, k.output, k.size, fun i hi => k.heap i (by omega) (fun hm => by have := hF i hm; omega)⟩

end Go.Proofs.YtnpnaglgllcpfaaGreat

/- The law Writes, of texts in memory. -/
namespace Go.Proofs.YtnpnaglgllcpfaaGreat
set_option maxRecDepth 100000
open Go.RowKit

theorem LEnc.new {w : World} {cb q : Nat} (h1 : EBox w cb q (.slice none 0 0) (.slice none 0 0) false) (h2 : EncAt w q [] false) : LEnc w cb [cb, q] :=
  ⟨q, .slice none 0 0, .slice none 0 0, .inl ⟨[], false, h1, h2, World.ownsRow_nil _ _ _ _, World.ownsRow_nil _ _ _ _, fun k hk => by simp [Value.ownBlock] at hk, by simp [Value.ownBlock]⟩⟩

theorem keptBelowE {w wr w' : World} {F : List Nat} {B : Nat} (h : Below B w wr) (hB : B ≤ wr.heap.size) (k : KeptBut wr w' F) (hF : ∀ i ∈ F, B ≤ i) : Below B w w' :=
  h.trans ⟨k.os, k.tape, k.output, k.size, fun i hi => k.heap i (by omega) (fun hm => by have := hF i hm; omega)⟩

end Go.Proofs.YtnpnaglgllcpfaaGreat

/- The step of the calls on Encoders and Decoders. -/
namespace Go.Proofs.YtnpnaglgllcpfaaGreat
set_option maxRecDepth 100000
open Go.RowKit

/-- Which of n things a raw number speaks of. -/
def pickI (c n : Int) : Int := if c < 0 then (-(c + 1)) % n else c % n
theorem pickI_range (c n : Int) (h : 0 < n) : 0 ≤ pickI c n ∧ pickI c n < n := by
  unfold pickI
  split
  · exact ⟨Int.emod_nonneg _ (by omega), Int.emod_lt_of_pos _ h⟩
  · exact ⟨Int.emod_nonneg _ (by omega), Int.emod_lt_of_pos _ h⟩
theorem lpick_calls (c n : Int) (w : World) (hc : -9223372036854775808 ≤ c ∧ c ≤ 9223372036854775807) (h1 : 1 ≤ n) (h2 : n ≤ 9223372036854775807) :
    Calls Tryz.prog 18 #[.int .i64 c, .int .i64 n] w fun e w' => e = .returned (.int .i64 (pickI c n)) ∧ w' = w := by
  obtain ⟨hc1, hc2⟩ := hc
  have hn0 : n ≠ 0 := by omega
  have hnb : (n == 0) = false := by simpa using hn0
  by_cases hneg : c < 0
  · have HP : Hid (pickI c n = (-(c + 1)) % n) := if_pos hneg
    go_enter Tryz.func18, Tryz.ntmps18
    go_wp2
    go_ret
    have e : (-(c + 1)).tmod n = (-(c + 1)) % n := Int.tmod_eq_emod_of_nonneg (by omega)
    have e3 : (-(c + 1)).tmod n = -((c + 1).tmod n) := Int.neg_tmod _ _
    have e4 := HP.out
    exact ⟨ret_i64 (by omega), rfl⟩
  · have HP : Hid (pickI c n = c % n) := if_neg hneg
    go_enter Tryz.func18, Tryz.ntmps18
    go_wp2
    go_ret
    exact ⟨ret_i64 HP.out.symm, rfl⟩
/-- One of the Encoders or Decoders was called. -/
theorem side_done {w w' : World} {Q N j i : Nat} {S : St} {F' : List Nat} (h : Inv w Q S N) (hj : j < 5) (hk : KeptBut w w' (S.bl (2 + j, i))) (hg : Good w' j ((S.xs j).getD i (.int .i64 0)) i F') (hF : ∀ k ∈ F', k ∈ S.bl (2 + j, i) ∨ w.heap.size ≤ k) (hlt : ∀ k ∈ F', k < w'.heap.size) :
    Inv w' Q (S.turn j i F') N ∧ Moved w w' S.own (S.turn j i F').own := by
  refine ⟨h.turn j i hj F' hk.same (fun k ho hn => hk.heap k (h.own_lt ho) hn) hg (fun k hm => ⟨?_, hlt k hm⟩), Moved.kept hk (fun k hm => ⟨_, hm⟩) (fun k ho => ?_)⟩
  · rcases hF k hm with h1 | h1
    · exact .inl h1
    · exact .inr (fun ho => by have := h.own_lt ho; omega)
  · rcases St.turn_own ho with h1 | h1
    · exact .inl h1
    · rcases hF k h1 with h2 | h2
      · exact .inl ⟨_, h2⟩
      · exact .inr h2
theorem infoPE : (Tryz.prog.info? 51).map (fun i => (i.zero, i.size, i.bytes)) = some (some (.pointer none), 1, 8) := by kernel_rfl
theorem infoPD : (Tryz.prog.info? 56).map (fun i => (i.zero, i.size, i.bytes)) = some (some (.pointer none), 1, 8) := by kernel_rfl

set_option maxHeartbeats 1000000 in
theorem sides10_calls (Q N : Nat) (S : St) (A : Int) (s : ByteArray) (ta : Option Addr) (tn tc : Nat) (pa : Option Addr) (pn pc : Nat) (vb : Value) (w : World) (hI : Inv w Q S N) (hN : N ≤ 100000000000) :
    Calls Tryz.prog 8 #[.pointer (some ⟨Q, 0, none⟩), opV 10 A s ta tn tc pa pn pc, vb] w fun e w' => StepAns w w' Q N S e := by
  obtain ⟨ib, hi, hz0, hz1, hz2⟩ := info_parts infoPE
  have HI : Hid (Inv w Q S N) := hI
  have HB1 : Hid (Below w.heap.size w (w.alloc (opCells 10 A s ta tn tc pa pn pc))) := (Below.refl _ _).alloc (Nat.le_refl _) _
  have hs1 : w.heap.size < (w.alloc (opCells 10 A s ta tn tc pa pn pc)).heap.size := by simp
  have hq := hI.qlt
  obtain ⟨vo, vc, hv⟩ := row_form (hI.row 0 (by omega))
  have HV : Hid (S.v 0 = .slice vo (S.xs 0).length vc) := hv
  have hKN := hI.len 0 (by omega)
  clear hI hv
  go_enter Tryz.func8, Tryz.ntmps8
  go_wp2_with fail
  generalize w.alloc (opCells 10 A s ta tn tc pa pn pc) = w1 at *
  refine (newEncoder_calls w1).mono ?_
  rintro e w2 ⟨rfl, hb2, hs2', he2⟩
  have hs2 : w1.heap.size < w2.heap.size := by omega
  have HB2 : Hid (Below w.heap.size w w2) := HB1.out.trans (hb2.mono (by omega))
  have HE2 : Hid _ := he2
  have hbx2 := (HI.out.below HB2.out).box
  rw [HV.out] at hbx2
  obtain ⟨⟨x0, x1, _⟩, _⟩ := five_cell hbx2
  have hq2 : Q < w2.heap.size := by omega
  have hB3 : Below w.heap.size w (w2.alloc (.cells #[.pointer (some ⟨w1.heap.size, 0, none⟩), .slice none 0 0, .slice none 0 0, .bool false] 53)) := HB2.out.alloc (by omega) _
  have hI3 := HI.out.below hB3
  have hbx3 := hI3.box
  rw [HV.out] at hbx3
  have HBX3 : Hid _ := hbx3
  have HR3 : Hid ((w2.alloc (.cells #[.pointer (some ⟨w1.heap.size, 0, none⟩), .slice none 0 0, .slice none 0 0, .bool false] 53)).ownsRow 0 51 1 (.slice vo (S.xs 0).length vc) (S.xs 0).length (S.xs 0)) := by
    have := hI3.row 0 (by omega)
    rw [HV.out] at this
    exact this
  have HI3 : Hid (Inv (w2.alloc (.cells #[.pointer (some ⟨w1.heap.size, 0, none⟩), .slice none 0 0, .slice none 0 0, .bool false] 53)) Q S N) := hI3
  have HB3 : Hid (Below w.heap.size w (w2.alloc (.cells #[.pointer (some ⟨w1.heap.size, 0, none⟩), .slice none 0 0, .slice none 0 0, .bool false] 53))) := hB3
  have HGD : Hid (Good (w2.alloc (.cells #[.pointer (some ⟨w1.heap.size, 0, none⟩), .slice none 0 0, .slice none 0 0, .bool false] 53)) 0 (.pointer (some ⟨w2.heap.size, 0, none⟩)) (S.xs 0).length [w2.heap.size, w1.heap.size]) := by
    refine ⟨w2.heap.size, rfl, ?_⟩
    refine LEnc.new (heap_alloc_new w2 _) ?_
    exact EncAt.kept HE2.out (Below.heap_alloc _ _ _ (by omega))
  have HS3 : Hid ((w2.alloc (.cells #[.pointer (some ⟨w1.heap.size, 0, none⟩), .slice none 0 0, .slice none 0 0, .bool false] 53)).heap.size = w2.heap.size + 1) := by show _ = _; simp
  have hs3 : w2.heap.size < (w2.alloc (.cells #[.pointer (some ⟨w1.heap.size, 0, none⟩), .slice none 0 0, .slice none 0 0, .bool false] 53)).heap.size := by simp
  have HNE : Hid ((Value.slice vo (S.xs 0).length vc).ownBlock ≠ some Q) := by
    have := HI3.out.rowNe (j := 0) (by omega)
    rw [HV.out] at this
    exact this
  generalize hK : (S.xs 0).length = K at *
  have HK : Hid ((S.xs 0).length = K) := hK
  clear hbx2 hbx3 hI3 hB3 hb2 he2 hK hs2'
  go_wp2_with (at_builtin; refine wpList_append_lies _ rfl _ _ 24 rfl 0 51 ib (.pointer none) 1 8 Tryz.underlying24 hi hz0 hz1 hz2 rfl (by decide) _ _ _ rfl (World.ownsRow.alloc HR3.out _) ⟨w2.heap.size + 1, 0, none⟩ 1 1 [.pointer (some ⟨w2.heap.size, 0, none⟩)] rfl rfl ?b1 ?b2 (by decide) ?b3 ?b4 ?b5 _ rfl ?_)
  case b1 => intro j u hj; exact cell_new1' _ _ (by simp) _ _ j u hj
  case b2 => intro u hu; simp at hu; subst hu; rfl
  case b3 => unfold maxLen; omega
  case b4 => omega
  case b5 => exact Nat.zero_le _
  intro g cap w4 hown4 hgrow4 hat hlt4
  generalize w2.alloc (.cells #[.pointer (some ⟨w1.heap.size, 0, none⟩), .slice none 0 0, .slice none 0 0, .bool false] 53) = w3 at *
  have hb4 : w4.heap[Q]? = _ := (hgrow4.block Q (by simp; omega) (fun e => HNE.out e.symm)).trans ((Below.heap_alloc _ _ _ (by omega)).trans HBX3.out)
  obtain ⟨⟨k0, k1, k2, k3, k4⟩, l0, l1, l2, l3, l4⟩ := five_cell hb4
  have hqw4 : Q < w4.heap.size := block_lt hb4
  have HD : Hid _ := push_done (j := 0) (x := .pointer (some ⟨w2.heap.size, 0, none⟩)) (F := [w2.heap.size, w1.heap.size]) (g := g) (cap := cap) HI3.out (by omega) ((Below.refl _ w3).alloc (Nat.le_refl _) _) (by rw [HV.out]; exact hgrow4) (by rw [HK.out]; exact hown4) (by
    rw [HV.out]
    rcases hat with h | h
    · exact .inl h
    · exact .inr (by have := HS3.out; rw [h]; omega)) (by rw [HK.out]; exact HGD.out) (fun x hx => by
      simp at hx
      refine ⟨fun ho => ?_, ?_⟩
      · have := HI.out.own_lt ho
        rcases hx with rfl | rfl <;> omega
      · rcases hx with rfl | rfl <;> omega)
  rw [HK.out] at HD
  clear hb4 hown4 hgrow4 hat x0 x1
  go_wp2
  go_ret
  refine ⟨rfl, _, HD.out.1.more (by omega), ?_⟩
  refine ((Moved.below HB3.out S.own).news (p := fun k => S.own k ∨ k ∈ [w2.heap.size, w1.heap.size]) (fun k hk => ?_)).trans HD.out.2
  rcases hk with h1 | h1
  · exact .inl h1
  · simp at h1
    exact .inr (by rcases h1 with rfl | rfl <;> omega)
set_option maxHeartbeats 1000000 in
theorem sides13_calls (Q N : Nat) (S : St) (A : Int) (s : ByteArray) (ta : Option Addr) (tn tc : Nat) (pa : Option Addr) (pn pc : Nat) (vb : Value) (w : World) (hI : Inv w Q S N) (hN : N ≤ 100000000000) :
    Calls Tryz.prog 8 #[.pointer (some ⟨Q, 0, none⟩), opV 13 A s ta tn tc pa pn pc, vb] w fun e w' => StepAns w w' Q N S e := by
  obtain ⟨ib, hi, hz0, hz1, hz2⟩ := info_parts infoPD
  have HI : Hid (Inv w Q S N) := hI
  have HB1 : Hid (Below w.heap.size w (w.alloc (opCells 13 A s ta tn tc pa pn pc))) := (Below.refl _ _).alloc (Nat.le_refl _) _
  have hs1 : w.heap.size < (w.alloc (opCells 13 A s ta tn tc pa pn pc)).heap.size := by simp
  have hq := hI.qlt
  obtain ⟨vo, vc, hv⟩ := row_form (hI.row 1 (by omega))
  have HV : Hid (S.v 1 = .slice vo (S.xs 1).length vc) := hv
  have hKN := hI.len 1 (by omega)
  clear hI hv
  go_enter Tryz.func8, Tryz.ntmps8
  go_wp2_with fail
  generalize w.alloc (opCells 13 A s ta tn tc pa pn pc) = w1 at *
  refine (newDecoder_calls w1).mono ?_
  rintro e w2 ⟨rfl, hb2, hs2', he2⟩
  have hs2 : w1.heap.size < w2.heap.size := by omega
  have HB2 : Hid (Below w.heap.size w w2) := HB1.out.trans (hb2.mono (by omega))
  have HE2 : Hid _ := he2
  have hbx2 := (HI.out.below HB2.out).box
  rw [HV.out] at hbx2
  obtain ⟨⟨x0, x1, _⟩, _⟩ := five_cell hbx2
  have hq2 : Q < w2.heap.size := by omega
  have hB3 : Below w.heap.size w (w2.alloc (.cells #[.pointer (some ⟨w1.heap.size, 0, none⟩), .slice none 0 0, .int .i64 0, .int .i64 0, .bool false] 58)) := HB2.out.alloc (by omega) _
  have hI3 := HI.out.below hB3
  have hbx3 := hI3.box
  rw [HV.out] at hbx3
  have HBX3 : Hid _ := hbx3
  have HR3 : Hid ((w2.alloc (.cells #[.pointer (some ⟨w1.heap.size, 0, none⟩), .slice none 0 0, .int .i64 0, .int .i64 0, .bool false] 58)).ownsRow 0 56 1 (.slice vo (S.xs 1).length vc) (S.xs 1).length (S.xs 1)) := by
    have := hI3.row 1 (by omega)
    rw [HV.out] at this
    exact this
  have HI3 : Hid (Inv (w2.alloc (.cells #[.pointer (some ⟨w1.heap.size, 0, none⟩), .slice none 0 0, .int .i64 0, .int .i64 0, .bool false] 58)) Q S N) := hI3
  have HB3 : Hid (Below w.heap.size w (w2.alloc (.cells #[.pointer (some ⟨w1.heap.size, 0, none⟩), .slice none 0 0, .int .i64 0, .int .i64 0, .bool false] 58))) := hB3
  have HGD : Hid (Good (w2.alloc (.cells #[.pointer (some ⟨w1.heap.size, 0, none⟩), .slice none 0 0, .int .i64 0, .int .i64 0, .bool false] 58)) 1 (.pointer (some ⟨w2.heap.size, 0, none⟩)) (S.xs 1).length [w2.heap.size, w1.heap.size]) := by
    refine ⟨w2.heap.size, rfl, ?_⟩
    refine LDec.new (heap_alloc_new w2 _) ?_
    exact (Below.heap_alloc _ _ _ (by omega)).trans HE2.out
  have HS3 : Hid ((w2.alloc (.cells #[.pointer (some ⟨w1.heap.size, 0, none⟩), .slice none 0 0, .int .i64 0, .int .i64 0, .bool false] 58)).heap.size = w2.heap.size + 1) := by show _ = _; simp
  have hs3 : w2.heap.size < (w2.alloc (.cells #[.pointer (some ⟨w1.heap.size, 0, none⟩), .slice none 0 0, .int .i64 0, .int .i64 0, .bool false] 58)).heap.size := by simp
  have HNE : Hid ((Value.slice vo (S.xs 1).length vc).ownBlock ≠ some Q) := by
    have := HI3.out.rowNe (j := 1) (by omega)
    rw [HV.out] at this
    exact this
  generalize hK : (S.xs 1).length = K at *
  have HK : Hid ((S.xs 1).length = K) := hK
  clear hbx2 hbx3 hI3 hB3 hb2 he2 hK hs2'
  go_wp2_with (at_builtin; refine wpList_append_lies _ rfl _ _ 25 rfl 0 56 ib (.pointer none) 1 8 Tryz.underlying25 hi hz0 hz1 hz2 rfl (by decide) _ _ _ rfl (World.ownsRow.alloc HR3.out _) ⟨w2.heap.size + 1, 0, none⟩ 1 1 [.pointer (some ⟨w2.heap.size, 0, none⟩)] rfl rfl ?b1 ?b2 (by decide) ?b3 ?b4 ?b5 _ rfl ?_)
  case b1 => intro j u hj; exact cell_new1' _ _ (by simp) _ _ j u hj
  case b2 => intro u hu; simp at hu; subst hu; rfl
  case b3 => unfold maxLen; omega
  case b4 => omega
  case b5 => exact Nat.zero_le _
  intro g cap w4 hown4 hgrow4 hat hlt4
  generalize w2.alloc (.cells #[.pointer (some ⟨w1.heap.size, 0, none⟩), .slice none 0 0, .int .i64 0, .int .i64 0, .bool false] 58) = w3 at *
  have hb4 : w4.heap[Q]? = _ := (hgrow4.block Q (by simp; omega) (fun e => HNE.out e.symm)).trans ((Below.heap_alloc _ _ _ (by omega)).trans HBX3.out)
  obtain ⟨⟨k0, k1, k2, k3, k4⟩, l0, l1, l2, l3, l4⟩ := five_cell hb4
  have hqw4 : Q < w4.heap.size := block_lt hb4
  have HD : Hid _ := push_done (j := 1) (x := .pointer (some ⟨w2.heap.size, 0, none⟩)) (F := [w2.heap.size, w1.heap.size]) (g := g) (cap := cap) HI3.out (by omega) ((Below.refl _ w3).alloc (Nat.le_refl _) _) (by rw [HV.out]; exact hgrow4) (by rw [HK.out]; exact hown4) (by
    rw [HV.out]
    rcases hat with h | h
    · exact .inl h
    · exact .inr (by have := HS3.out; rw [h]; omega)) (by rw [HK.out]; exact HGD.out) (fun x hx => by
      simp at hx
      refine ⟨fun ho => ?_, ?_⟩
      · have := HI.out.own_lt ho
        rcases hx with rfl | rfl <;> omega
      · rcases hx with rfl | rfl <;> omega)
  rw [HK.out] at HD
  clear hb4 hown4 hgrow4 hat x0 x1
  go_wp2
  go_ret
  refine ⟨rfl, _, HD.out.1.more (by omega), ?_⟩
  refine ((Moved.below HB3.out S.own).news (p := fun k => S.own k ∨ k ∈ [w2.heap.size, w1.heap.size]) (fun k hk => ?_)).trans HD.out.2
  rcases hk with h1 | h1
  · exact .inl h1
  · simp at h1
    exact .inr (by rcases h1 with rfl | rfl <;> omega)
end Go.Proofs.YtnpnaglgllcpfaaGreat
