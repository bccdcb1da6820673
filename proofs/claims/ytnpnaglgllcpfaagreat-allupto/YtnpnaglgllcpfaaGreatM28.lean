/-
  Lemmas for the law All: Gr, Gs, PEx, RefPk2, RefPk3, Bfr.
-/
import Derived.Test.YtnpnaglgllcpfaaGreatM27
import Derived.Test.YtnpnaglgllcpfaaGreatM13
import Derived.Laws.MakeOwn
import Derived.Laws.CopyOwn
import Derived.Test.YtnpnaglgllcpfaaGreatM14
import Derived.Test.YtnpnaglgllcpfaaGreatM01
import Derived.Test.YtnpnaglgllcpfaaGreatM04
import Derived.Test.YtnpnaglgllcpfaaGreatM11
import Derived.Lib.SlBytesConst
import Derived.ArgAppend
import Derived.Test.YtnpnaglgllcpfaaGreatM24
/- Bytes of their own with two bytes of spare room; what was handed in is as it was, and is written over. -/
namespace Go.Proofs.YtnpnaglgllcpfaaGreat
set_option maxRecDepth 100000
open Go.RowKit

theorem info8s : (Tryz.prog.info? 5).map (·.size) = some 1 := by kernel_rfl
theorem made_bytes (n : Nat) : madeCells (Value.int .u8 0).cells n = (List.replicate n (.int .u8 0)).toArray := by
  apply Array.ext
  · simp [madeCells]
  · intro i h1 h2
    simp [madeCells, Nat.mod_one, Value.cells]
theorem run_copy_str {P : Program} (w : World) (dT sT ty elem : TypeId) (g dLen dCap : Nat) (s : ByteArray) (cur : Array Value) (t : TypeId)
    (hu : P.underlying dT = some (.slice elem)) (hs : (P.info? elem).map (·.size) = some 1) (hg : w.heap[g]? = some (.cells cur t (0, 0))) (hn : s.size ≤ dLen) (hfit : s.size ≤ cur.size) :
    (Builtin.copy_ #[dT, sT] ty #[.slice (some ⟨g, 0, none⟩) dLen dCap, .string s]).run P w = .ok (goInt s.size) (w.setRow g (cellsB s.data.toList ++ cur.toList.drop s.size).toArray) := by
  have hl : (cellsB s.data.toList).length = s.size := by simp [cellsB]
  have hst := run_storeCells_at P g 0 t (cellsB s.data.toList) 0 cur w hg (by rw [hl]; omega) (fun u hu => by simp [cellsB] at hu; obtain ⟨_, _, rfl⟩ := hu; rfl)
  rw [hl] at hst
  simp only [Nat.zero_add, List.take_zero, List.nil_append] at hst
  have htk : List.take s.size (List.map (fun b : UInt8 => Value.int .u8 (b.toNat : Int)) s.data.toList) = cellsB s.data.toList := List.take_of_length_le (by simp)
  have hm : Nat.min s.size dLen = s.size := Nat.min_eq_left hn
  cases hq : P.info? elem with
  | none => simp [hq] at hs
  | some i =>
    have hi : i.size = 1 := by simpa [hq] using hs
    simp [Builtin.copy_, run_underlying hu, Builtin.lenOf, Builtin.firstCells, sizeOf, typeInfo, hq, hm, htk, hst]

/-- What roomy lays. -/
def RoomAt (w : World) (g : Nat) (s : ByteArray) : Prop := w.heap[g]? = some (.cells (cellsB s.data.toList ++ [Value.int .u8 7, Value.int .u8 7]).toArray 5 (0, 0))
theorem RoomAt.bytes {w : World} {g : Nat} {s : ByteArray} (h : RoomAt w g s) : BytesAt w (some ⟨g, 0, none⟩) s.data.toList := by
  refine .inr ⟨g, 0, rfl, fun i hi => ?_⟩
  unfold RoomAt at h
  rw [Nat.zero_add, World.cell?]
  simp only [h]
  simp only [List.getElem?_toArray]
  rw [List.getElem?_append_left (by simpa [cellsB] using hi)]
  have hi' : i < s.size := by simpa using hi
  simp [cellsB, List.getD, hi']

set_option maxHeartbeats 1000000 in
theorem roomy_calls (s : ByteArray) (w : World) (hs : s.size ≤ 2000000) :
    Calls Tryz.prog 7 #[.string s] w fun e w' => e = .returned (.slice (some ⟨w.heap.size, 0, none⟩) s.size (s.size + 2)) ∧ Below w.heap.size w w' ∧ w.heap.size < w'.heap.size ∧ RoomAt w' w.heap.size s := by
  obtain ⟨i0, hii, hz0, hz1, hz2⟩ := info_parts info8
  obtain ⟨Z, hZ⟩ : ∃ Z : List Value, Z = List.replicate (s.size + 2) (.int .u8 0) := ⟨_, rfl⟩
  have HZ : Hid _ := hZ
  have hmk : ∀ wx : World, (Instr.makeSlice 37 (.int .i64 ((s.size : Int) + 2)) (.int .i64 ((s.size : Int) + 2))).run Tryz.prog wx = .ok (.slice (some ⟨wx.heap.size, 0, none⟩) (s.size + 2) (s.size + 2)) (wx.alloc (.cells Z.toArray 5)) := fun wx => by
    have h := run_make (P := Tryz.prog) (w := wx) 37 5 i0 (.int .u8 0) Tryz.underlying37 hii hz0 .i64 .i64 ((s.size : Int) + 2) ((s.size : Int) + 2) (by omega) (by omega) (by rw [hz2]; omega) (by omega)
    rw [hz1, Nat.mul_one, show ((s.size : Int) + 2).toNat = s.size + 2 by omega] at h
    rw [hZ, ← made_bytes]
    exact h
  obtain ⟨w2, hcp, HG2, HBB⟩ : ∃ w2, (Builtin.copy_ #[37, 9] 3 #[.slice (some ⟨w.heap.size, 0, none⟩) (s.size + 2) (s.size + 2), .string s]).run Tryz.prog (w.alloc (.cells Z.toArray 5)) = .ok (goInt s.size) w2 ∧ Hid (w2.heap[w.heap.size]? = some (.cells (cellsB s.data.toList ++ [Value.int .u8 0, Value.int .u8 0]).toArray 5 (0, 0))) ∧ Hid (Below w.heap.size w w2) := by
    have hg : (w.alloc (.cells Z.toArray 5)).heap[w.heap.size]? = some (.cells Z.toArray 5 (0, 0)) := heap_alloc_new w _
    have hrun := run_copy_str (P := Tryz.prog) (w.alloc (.cells Z.toArray 5)) 37 9 3 5 w.heap.size (s.size + 2) (s.size + 2) s Z.toArray 5 Tryz.underlying37 info8s hg (by omega) (by rw [hZ]; simp)
    refine ⟨_, hrun, ?_, ?_⟩
    · show _ = _
      rw [setRow_heap _ _ _ _ _ _ hg]
      congr 3
      rw [hZ]
      simp
    · exact below_setRow ((Below.refl _ _).alloc (Nat.le_refl _) _) (Nat.le_refl _) _
  clear hZ
  have hlt2 : w.heap.size < w2.heap.size := (Array.getElem?_eq_some_iff.1 HG2.out).1
  have hcl : (cellsB s.data.toList).length = s.size := by simp [cellsB]
  have hc2 : w2.cell? ⟨w.heap.size, s.size, none⟩ = some (.int .u8 0) := by
    simp [World.cell?, HG2.out, hcl]
  have hc3 : w2.cell? ⟨w.heap.size, s.size + 1, none⟩ = some (.int .u8 0) := by
    simp [World.cell?, HG2.out, hcl]
  have hf2 : w2.frozen? ⟨w.heap.size, s.size, none⟩ = false := by simp [World.frozen?, HG2.out]
  have hf3 : w2.frozen? ⟨w.heap.size, s.size + 1, none⟩ = false := by simp [World.frozen?, HG2.out]
  have HCL : Hid _ := hcl
  clear hcl
  have hi1 : (0 : Int) ≤ (s.size : Int) ∧ (s.size : Int) < (s.size : Int) + 2 := by omega
  have hi2 : (0 : Int) ≤ (s.size : Int) + 1 ∧ (s.size : Int) + 1 < (s.size : Int) + 2 := by omega
  have hi3 : (0 : Int) ≤ (s.size : Int) ∧ (s.size : Int) ≤ (s.size : Int) + 2 := by omega
  go_enter Tryz.func7, Tryz.ntmps7
  go_wp2
  go_ret
  refine ⟨rfl, (HBB.out.setCell (Nat.le_refl _) _).setCell (Nat.le_refl _) _, by simp; omega, ?_⟩
  have hb := set_block (i := s.size + 1) (set_block (i := s.size) HG2.out (.int .u8 7)) (.int .u8 7)
  unfold RoomAt
  rw [hb]
  have hcl := HCL.out
  congr 2
  simp [hcl]

set_option maxHeartbeats 1000000 in
theorem kept_calls (g : Nat) (s : ByteArray) (w : World) (hs : s.size ≤ 2000000) (h : RoomAt w g s) :
    Calls Tryz.prog 10 #[.slice (some ⟨g, 0, none⟩) s.size (s.size + 2), .string s] w fun e w' => e = .returned (.bool true) ∧ w.grownBy w' (some g) := by
  have hcl : (cellsB s.data.toList).length = s.size := by simp [cellsB]
  have HR : Hid (w.ownsRow 0 5 1 (.slice (some ⟨g, 0, none⟩) (s.size + 2) (s.size + 2)) (s.size + 2) (cellsB s.data.toList ++ [Value.int .u8 7, Value.int .u8 7])) :=
    ⟨by simp [hcl], .inr ⟨g, s.size + 2, _, rfl, Nat.zero_le _, h, Nat.le_refl _, by unfold maxLen; omega, by simp [hcl], List.take_of_length_le (by simp [hcl])⟩⟩
  have k0 : (convert 37 9 (.slice (some ⟨g, 0, none⟩) s.size (s.size + 2))).run Tryz.prog w = .ok (.string s) w := by
    have := conv_bytes (s.size + 2) (RoomAt.bytes h)
    have e : s.data.toList.length = s.size := by simp
    rw [e] at this
    exact this
  have c1 : w.cell? ⟨g, s.size, none⟩ = some (.int .u8 7) := by
    unfold RoomAt at h
    simp [World.cell?, h, hcl]
  have c2 : w.cell? ⟨g, s.size + 1, none⟩ = some (.int .u8 7) := by
    unfold RoomAt at h
    simp [World.cell?, h, hcl]
  have hg : g < w.heap.size := (Array.getElem?_eq_some_iff.1 h).1
  have hi1 : (0 : Int) ≤ (s.size : Int) ∧ (s.size : Int) < (s.size : Int) + 2 := by omega
  have hi2 : (0 : Int) ≤ (s.size : Int) + 1 ∧ (s.size : Int) + 1 < (s.size : Int) + 2 := by omega
  have hi3 : (0 : Int) ≤ (s.size : Int) + 2 ∧ (s.size : Int) + 2 ≤ (s.size : Int) + 2 := by omega
  clear h hcl
  go_enter Tryz.func10, Tryz.ntmps10
  go_wp2_with fail
  clear c1 c2 k0
  go_loopg [7] (s.size + 2) (fun gh iv wr => ∃ k : Nat, k ≤ s.size + 2 ∧ gh = s.size + 2 - k ∧ iv = .int .i64 k ∧ Hid (w.grownBy wr (some g)) ∧ Hid (∃ zs, wr.ownsRow 0 5 1 (.slice (some ⟨g, 0, none⟩) (s.size + 2) (s.size + 2)) (s.size + 2) zs))
  case atStart => exact ⟨0, by omega, rfl, rfl, grown_refl _ _, _, HR.out⟩
  case round =>
    obtain ⟨k, hk, hgh, rfl, HG1, HO1⟩ := hrel
    have HG : Hid _ := hgh
    clear hgh
    by_cases hlt : k < s.size + 2
    · obtain ⟨zs, hrow⟩ := HO1.out
      have hxl := hrow.1
      obtain ⟨u0, hu0⟩ : ∃ y, wr.cell? ⟨g, k, none⟩ = some y := ⟨_, by rw [hrow.cellAt k (by omega)]; exact List.getElem?_eq_getElem (by omega)⟩
      have hf0 := hrow.frozenAt k
      have hgl : g < wr.heap.size := World.block_lt_of_cell? wr _ hu0
      have hkI : 0 ≤ (k : Int) ∧ (k : Int) < (s.size : Int) + 2 := by omega
      have HR1 : Hid _ := hrow
      clear hrow hxl
      go_wp2
      go_roundg (s.size + 2 - (k + 1))
      case measure => have := HG.out; omega
      case rel => exact ⟨k + 1, by omega, rfl, by go_num, grown_set HG1.out rfl _ _, _, (World.ownsRow.stored HR1.out k _).1⟩
    · have hlt' : ¬ (k : Int) < (s.size : Int) + 2 := by omega
      go_wp2
      go_ret
      exact ⟨rfl, HG1.out⟩
end Go.Proofs.YtnpnaglgllcpfaaGreat

/- Tokens of their own with one of spare room; what was handed in is as it was. -/
namespace Go.Proofs.YtnpnaglgllcpfaaGreat
set_option maxRecDepth 100000
open Go.RowKit

theorem run_copy_rowZ {P : Program} (w : World) (dT sT ty elem : TypeId) (g dLen dCap : Nat) (a : Addr) (sLen sCap : Nat) (cur : Array Value) (t : TypeId) (cs : List Value) (z : Nat)
    (hu : P.underlying dT = some (.slice elem)) (hs : (P.info? elem).map (·.size) = some z)
    (hg : w.heap[g]? = some (.cells cur t (0, 0))) (hle : sLen ≤ dLen) (hn : cs.length = sLen * z)
    (hsrc : ∀ j v, cs[j]? = some v → w.cell? (a.add j) = some v) (hfit : cs.length ≤ cur.size) (h1 : ∀ v ∈ cs, v.oneCell' = true) :
    (Builtin.copy_ #[dT, sT] ty #[.slice (some ⟨g, 0, none⟩) dLen dCap, .slice (some a) sLen sCap]).run P w =
      .ok (goInt sLen) (w.setRow g (cs ++ cur.toList.drop cs.length).toArray) := by
  have hl := run_loadCells_list (P := P) w a cs hsrc
  have hst := run_storeCells_at P g 0 t cs 0 cur w hg (by omega) h1
  simp only [Nat.zero_add, List.take_zero, List.nil_append] at hst
  rw [hn] at hl
  have hm : Nat.min sLen dLen = sLen := Nat.min_eq_left hle
  cases hq : P.info? elem with
  | none => simp [hq] at hs
  | some i =>
    have hi : i.size = z := by simpa [hq] using hs
    simp [Builtin.copy_, run_underlying hu, Builtin.lenOf, Builtin.firstCells, sizeOf, typeInfo, hq, hi, hm, hl, hst]
theorem run_copy_nil2 {P : Program} (w : World) (dT sT ty elem : TypeId) (a : Addr) (dLen dCap sCap : Nat) (hu : P.underlying dT = some (.slice elem)) (hs : ((P.info? elem).map (·.size)).isSome = true) :
    (Builtin.copy_ #[dT, sT] ty #[.slice (some a) dLen dCap, .slice none 0 sCap]).run P w = .ok (goInt 0) w := by
  cases hq : P.info? elem with
  | none => simp [hq] at hs
  | some i => simp [Builtin.copy_, run_underlying hu, Builtin.lenOf, Builtin.firstCells, sizeOf, typeInfo, hq, storeCells]
theorem infoTok3 : (Tryz.prog.info? 42).map (·.size) = some 3 := by kernel_rfl
theorem cellsT_one (ts : List Tok) : ∀ u ∈ cellsT ts, u.oneCell' = true := by
  intro u hu
  unfold cellsT at hu
  obtain ⟨t, _, h⟩ := List.mem_flatMap.1 hu
  simp at h
  rcases h with rfl | rfl | rfl <;> rfl
/-- What roomyTokens lays. -/
def RoomT (w : World) (g : Nat) (ts : List Tok) : Prop := w.heap[g]? = some (.cells (cellsT (ts ++ [⟨7, 0, 0⟩])).toArray 42 (0, 0))
theorem RoomT.toks {w : World} {g : Nat} {ts : List Tok} (h : RoomT w g ts) : ToksAt w (some ⟨g, 0, none⟩) ts := by
  refine .inr ⟨g, 0, rfl, (Array.getElem?_eq_some_iff.1 h).1, fun i hi => ?_⟩
  obtain ⟨g0, g1, g2⟩ := cellsT_get (ts ++ [⟨7, 0, 0⟩]) i (by simp; omega)
  have e : (ts ++ [(⟨7, 0, 0⟩ : Tok)])[i]'(by simp; omega) = ts[i] := List.getElem_append_left hi
  rw [e] at g0 g1 g2
  have hc : ∀ j, w.cell? ⟨g, j, none⟩ = (cellsT (ts ++ [⟨7, 0, 0⟩]))[j]? := fun j => by
    unfold RoomT at h
    simp [World.cell?, h]
  rw [Nat.zero_add, hc, hc, hc]
  exact ⟨g0, g1, g2⟩
theorem ToksAt.src {w : World} {ad : Addr} {ts : List Tok} (h : ToksAt w (some ad) ts) : ∀ j v, (cellsT ts)[j]? = some v → w.cell? (ad.add j) = some v := by
  intro j v hj
  rcases h with rfl | ⟨b, off, h1, hlt, h2⟩
  · simp [cellsT] at hj
  · simp at h1
    subst h1
    have hjl : j < ts.length * 3 := by
      have := (List.getElem?_eq_some_iff.1 hj).1
      rw [cellsT_length] at this
      exact this
    have hadd : (⟨b, off, none⟩ : Addr).add j = ⟨b, off + j, none⟩ := by unfold Addr.add; split <;> simp_all
    rw [hadd]
    obtain ⟨m, hm, hcase⟩ : ∃ m, m < ts.length ∧ (j = m * 3 ∨ j = m * 3 + 1 ∨ j = m * 3 + 2) := ⟨j / 3, by omega, by omega⟩
    obtain ⟨g0, g1, g2⟩ := cellsT_get ts m hm
    obtain ⟨c0, c1, c2⟩ := h2 m hm
    rcases hcase with rfl | rfl | rfl
    · rw [c0, ← g0, hj]
    · rw [show off + (m * 3 + 1) = off + m * 3 + 1 by omega, c1, ← g1, hj]
    · rw [show off + (m * 3 + 2) = off + m * 3 + 2 by omega, c2, ← g2, hj]

set_option maxHeartbeats 1000000 in
theorem roomyTokens_calls (a : Option Addr) (ts : List Tok) (cap : Nat) (w : World) (hs : ts.length ≤ 2000000) (h : ToksAt w a ts) :
    Calls Tryz.prog 11 #[.slice a ts.length cap] w fun e w' => e = .returned (.slice (some ⟨w.heap.size, 0, none⟩) ts.length (ts.length + 1)) ∧ Below w.heap.size w w' ∧ w.heap.size < w'.heap.size ∧ RoomT w' w.heap.size ts := by
  obtain ⟨i0, hii, hz0, hz1, hz2⟩ := info_parts infoTok
  obtain ⟨Z, hZ, hZl⟩ : ∃ Z : Array Value, Z = madeCells #[.int .i64 0, .int .i64 0, .int .i64 0] ((ts.length + 1) * 3) ∧ Z.size = (ts.length + 1) * 3 := ⟨_, rfl, size_madeCells _ _⟩
  have hmk : ∀ wx : World, (Instr.makeSlice 32 (.int .i64 ((ts.length : Int) + 1)) (.int .i64 ((ts.length : Int) + 1))).run Tryz.prog wx = .ok (.slice (some ⟨wx.heap.size, 0, none⟩) (ts.length + 1) (ts.length + 1)) (wx.alloc (.cells Z 42)) := fun wx => by
    have h := run_make (P := Tryz.prog) (w := wx) 32 42 i0 (.agg #[.int .i64 0, .int .i64 0, .int .i64 0]) Tryz.underlying32 hii hz0 .i64 .i64 ((ts.length : Int) + 1) ((ts.length : Int) + 1) (by omega) (by omega) (by rw [hz2]; omega) (by omega)
    rw [hz1, show ((ts.length : Int) + 1).toNat = ts.length + 1 by omega] at h
    rw [hZ]
    exact h
  obtain ⟨z0, z1, z2, hzz⟩ : ∃ z0 z1 z2, Z.toList.drop (ts.length * 3) = [z0, z1, z2] := by
    have hl : (Z.toList.drop (ts.length * 3)).length = 3 := by rw [List.length_drop, Array.length_toList, hZl]; omega
    match Z.toList.drop (ts.length * 3), hl with
    | [z0, z1, z2], _ => exact ⟨z0, z1, z2, rfl⟩
  obtain ⟨w2, hcp, HG2, HBB⟩ : ∃ w2, (Builtin.copy_ #[32, 32] 3 #[.slice (some ⟨w.heap.size, 0, none⟩) (ts.length + 1) (ts.length + 1), .slice a ts.length cap]).run Tryz.prog (w.alloc (.cells Z 42)) = .ok (goInt (ts.length : Nat)) w2 ∧ Hid (w2.heap[w.heap.size]? = some (.cells (cellsT ts ++ [z0, z1, z2]).toArray 42 (0, 0))) ∧ Hid (Below w.heap.size w w2) := by
    have hg : (w.alloc (.cells Z 42)).heap[w.heap.size]? = some (.cells Z 42 (0, 0)) := heap_alloc_new w _
    rcases a with _ | ad
    · obtain rfl : ts = [] := by
        rcases h with h | ⟨b, off, h1, _⟩
        · exact h
        · cases h1
      have hrun := run_copy_nil2 (P := Tryz.prog) (w.alloc (.cells Z 42)) 32 32 3 42 ⟨w.heap.size, 0, none⟩ 1 1 cap Tryz.underlying32 (by rw [infoTok3]; rfl)
      refine ⟨_, hrun, ?_, (Below.refl _ _).alloc (Nat.le_refl _) _⟩
      show _ = _
      rw [hg]
      congr 2
      simp at hzz
      simp [cellsT, ← hzz]
    · have hrun := run_copy_rowZ (P := Tryz.prog) (w.alloc (.cells Z 42)) 32 32 3 42 w.heap.size (ts.length + 1) (ts.length + 1) ad ts.length cap Z 42 (cellsT ts) 3 Tryz.underlying32 infoTok3 hg (by omega) (cellsT_length ts) (ToksAt.src (h.below ((Below.refl _ _).alloc (Nat.le_refl _) _))) (by rw [cellsT_length, hZl]; omega) (cellsT_one ts)
      rw [cellsT_length, hzz] at hrun
      refine ⟨_, hrun, ?_, ?_⟩
      · show _ = _
        rw [setRow_heap _ _ _ _ _ _ hg]
      · exact below_setRow ((Below.refl _ _).alloc (Nat.le_refl _) _) (Nat.le_refl _) _
  clear hZ hZl hzz h
  have hlt2 : w.heap.size < w2.heap.size := (Array.getElem?_eq_some_iff.1 HG2.out).1
  have hcl := cellsT_length ts
  have hc2 : w2.cell? ⟨w.heap.size, ts.length * 3, none⟩ = some z0 := by simp [World.cell?, HG2.out, hcl]
  have hc3 : w2.cell? ⟨w.heap.size, ts.length * 3 + 1, none⟩ = some z1 := by simp [World.cell?, HG2.out, hcl]
  have hc4 : w2.cell? ⟨w.heap.size, ts.length * 3 + 2, none⟩ = some z2 := by simp [World.cell?, HG2.out, hcl]
  have hf2 : ∀ j, w2.frozen? ⟨w.heap.size, j, none⟩ = false := fun j => by simp [World.frozen?, HG2.out]
  have hf3 := hf2 (ts.length * 3)
  have hf4 := hf2 (ts.length * 3 + 1)
  have hf5 := hf2 (ts.length * 3 + 2)
  have HCL : Hid _ := hcl
  clear hcl hf2
  have hi1 : (0 : Int) ≤ (ts.length : Int) ∧ (ts.length : Int) < (ts.length : Int) + 1 := by omega
  have hi3 : (0 : Int) ≤ (ts.length : Int) ∧ (ts.length : Int) ≤ (ts.length : Int) + 1 := by omega
  go_enter Tryz.func11, Tryz.ntmps11
  go_wp2
  go_ret
  refine ⟨rfl, ((HBB.out.setCell (Nat.le_refl _) _).setCell (Nat.le_refl _) _).setCell (Nat.le_refl _) _, by simp; omega, ?_⟩
  have hb := set_block (i := ts.length * 3 + 2) (set_block (i := ts.length * 3 + 1) (set_block (i := ts.length * 3) HG2.out (.int .i64 7)) (.int .i64 0)) (.int .i64 0)
  unfold RoomT
  rw [hb]
  have hcl := HCL.out
  congr 2
  rw [cellsT_snoc]
  simp [hcl]

set_option maxHeartbeats 1000000 in
theorem keptTokens_calls (g : Nat) (a : Option Addr) (ts : List Tok) (cap : Nat) (w : World) (hs : ts.length ≤ 2000000) (h : RoomT w g ts) (ht : ToksAt w a ts) :
    Calls Tryz.prog 13 #[.slice (some ⟨g, 0, none⟩) ts.length (ts.length + 1), .slice a ts.length cap] w fun e w' => e = .returned (.bool true) ∧ ∃ n, w' = w.drewN n := by
  have hcl := cellsT_length ts
  have hc : ∀ j, w.cell? ⟨g, j, none⟩ = (cellsT ts ++ [.int .i64 7, .int .i64 0, .int .i64 0])[j]? := fun j => by
    unfold RoomT at h
    rw [cellsT_snoc] at h
    simp [World.cell?, h]
  have c0 : w.cell? ⟨g, ts.length * 3, none⟩ = some (.int .i64 7) := by simp [hc, hcl]
  have c1 : w.cell? ⟨g, ts.length * 3 + 1, none⟩ = some (.int .i64 0) := by simp [hc, hcl]
  have c2 : w.cell? ⟨g, ts.length * 3 + 2, none⟩ = some (.int .i64 0) := by simp [hc, hcl]
  have HST : Hid _ := sameTokens_calls (some ⟨g, 0, none⟩) a ts (ts.length + 1) cap w (by omega) h.toks ht
  have hg : g < w.heap.size := (Array.getElem?_eq_some_iff.1 h).1
  have hi1 : (0 : Int) ≤ (ts.length : Int) ∧ (ts.length : Int) < (ts.length : Int) + 1 := by omega
  have hi3 : (0 : Int) ≤ (ts.length : Int) + 1 ∧ (ts.length : Int) + 1 ≤ (ts.length : Int) + 1 := by omega
  clear hc h ht hcl
  go_enter Tryz.func13, Tryz.ntmps13
  go_wp2_with fail
  refine Calls.mono HST.out ?_
  rintro e w1 ⟨rfl, n, rfl⟩
  go_wp2
  go_ret
  exact ⟨rfl, n, rfl⟩
end Go.Proofs.YtnpnaglgllcpfaaGreat

/- What Expand and Cost answer of tokens in memory. -/
namespace Go.Proofs.YtnpnaglgllcpfaaGreat
set_option maxRecDepth 100000
open Go.RowKit

theorem pressExpand_calls (a : Option Addr) (ts : List Tok) (cap : Nat) (w : World) (hl : ts.length ≤ 9223372036854775807) (ht : ToksAt w a ts) :
    Calls Tryz.prog 33 #[.slice a ts.length cap] w fun e w' => Below w.heap.size w w' ∧
      ((Tok.expand [] ts = none ∧ e = .returned (.tuple #[.slice none 0 0, .int .i64 2])) ∨
       ∃ out v, Tok.expand [] ts = some out ∧ out.length ≤ 64 ∧ e = .returned (.tuple #[v, .int .i64 0]) ∧ OwnB w' w.heap.size v out) := by
  have HT : Hid (ToksAt w a ts) := ht
  clear ht
  go_enter Tryz.func33, Tryz.ntmps33
  go_wp2_with fail
  refine (expand_calls a ts cap w hl HT.out).mono ?_
  rintro e w1 ⟨hb, ⟨he, rfl⟩ | ⟨out, v, he, ho, rfl, hown⟩⟩
  · have HE : Hid _ := he
    clear he
    go_wp2
    go_ret2
    exact ⟨hb, .inl ⟨HE.out, rfl⟩⟩
  · have HE : Hid _ := he
    have HO : Hid _ := hown
    clear he hown
    go_wp2
    go_ret2
    exact ⟨hb, .inr ⟨out, v, HE.out, ho, rfl, HO.out⟩⟩
theorem pressCost_calls (a : Option Addr) (ts : List Tok) (cap : Nat) (w : World) (hl : ts.length ≤ 9223372036854775807) (ht : ToksAt w a ts) :
    Calls Tryz.prog 34 #[.slice a ts.length cap] w fun e w' => Below w.heap.size w w' ∧
      ((Tok.expand [] ts = none ∧ e = .returned (.tuple #[.int .i64 0, .int .i64 2])) ∨
       ∃ out, Tok.expand [] ts = some out ∧ e = .returned (.tuple #[.int .i64 (Tok.costs ts), .int .i64 0])) := by
  have HT : Hid (ToksAt w a ts) := ht
  clear ht
  go_enter Tryz.func34, Tryz.ntmps34
  go_wp2_with fail
  refine (cost_calls a ts cap w hl HT.out).mono ?_
  rintro e w1 ⟨hb, rfl⟩
  cases he : Tok.expand [] ts with
  | none =>
    rw [Tok.okB_none he, Tok.costAns_none he]
    have HE : Hid _ := he
    clear he
    go_wp2
    go_ret2
    exact ⟨hb, .inl ⟨HE.out, rfl⟩⟩
  | some out =>
    rw [Tok.okB_some he, Tok.costAns_some he]
    have HE : Hid _ := he
    clear he
    go_wp2
    go_ret2
    exact ⟨hb, .inr ⟨out, HE.out, rfl⟩⟩
end Go.Proofs.YtnpnaglgllcpfaaGreat

/- What the document's Pack answers of pieces in memory. -/
namespace Go.Proofs.YtnpnaglgllcpfaaGreat
set_option maxRecDepth 100000
open Go.RowKit

set_option maxHeartbeats 1000000 in
theorem refBytes_calls (L : List Bool) (w : World) (hl : L.length ≤ 100000) :
    Calls Tryz.prog 70 #[.string (text L)] w fun e w' => ∃ v, e = .returned v ∧ OwnB w' w.heap.size v (toBytes L) ∧ Below w.heap.size w w' := by
  obtain ⟨i0, hi, hz0, hz1, hz2⟩ := info_parts info8
  have hsz : (text L).size = L.length := text_len L
  have HG : Hid (∀ i (h : i < (text L).size) (h' : i < L.length), (((text L)[i]'h).toNat : Int) = 48 + (L[i].toNat : Int)) := text_get L
  generalize text L = s at *
  have hs1 : s.size ≤ 100000 := by omega
  have HSZ : Hid _ := hsz
  clear hsz
  go_enter Tryz.func70, Tryz.ntmps70
  go_wp2
  go_loopw [3, 4] (fun v i wr => ∃ (j : Nat), 8 * j ≤ s.size ∧ i = .int .i64 ((8 * j : Nat) : Int) ∧ OwnB wr w.heap.size v (toBytes (L.take (8 * j))) ∧ Below w.heap.size w wr) (fun _ i _ => s.size - (intOf i).toNat)
  case atStart => exact ⟨0, by omega, rfl, World.ownsRow_nil _ _ _ _, Below.refl _ _⟩
  case round =>
    obtain ⟨j, hj, rfl, hown, hb⟩ := hrel
    have HO : Hid _ := hown
    clear hown
    have hss := hb.size
    generalize hI : 8 * j = I at *
    have HI : Hid _ := hI
    clear hI
    by_cases hlt : I + 8 ≤ s.size
    · obtain ⟨w1, hw1⟩ : ∃ w1, w1 = wr := ⟨_, rfl⟩
      rw [← hw1]
      rw [← hw1] at HO hb hss
      clear hw1
      go_wp2_with fail
      go_loopw [5, 6] (fun x k wq => ∃ (K : Nat), K ≤ 8 ∧ k = .int .i64 K ∧ x = .int .i64 (valB ((L.drop I).take K)) ∧ wq = w1) (fun _ k _ => 8 - (intOf k).toNat)
      case atStart => exact ⟨0, by omega, rfl, rfl, rfl⟩
      case round =>
        obtain ⟨K, hK, rfl, rfl, rfl⟩ := hrel
        have hvl : valB ((L.drop I).take K) < 256 := valB_256 _ (by rw [List.length_take]; omega)
        by_cases hKl : K < 8
        · have hIK : I + K < s.size := by omega
          have hLIK : I + K < L.length := by have := HSZ.out; omega
          have HV : Hid ((valB ((L.drop I).take (K + 1)) : Int) = 2 * (valB ((L.drop I).take K) : Int) + (L[I + K].toNat : Int)) := by
            show _ = _
            have hd : K < (L.drop I).length := by rw [List.length_drop]; omega
            rw [List.take_succ_eq_append_getElem hd, valB_snoc, List.getElem_drop]
            simp
          have hix : 0 ≤ (I : Int) + (K : Int) ∧ (I : Int) + (K : Int) < (s.size : Int) := by omega
          generalize valB ((L.drop I).take K) = y at *
          go_wp2
          go_roundw
          case rel =>
            refine ⟨K + 1, by omega, by go_num, ?_, by first | trivial | rfl⟩
            have hg := HG.out (I + K) hIK hLIK
            have hbt : L[I + K].toNat ≤ 1 := Bool.toNat_le _
            rw [HV.out, hg]
            have : (48 + (L[I + K].toNat : Int) - 48) % 256 = (L[I + K].toNat : Int) := by omega
            rw [this]
          case measure => simp [intOf]; omega
        · have hKe : K = 8 := by omega
          subst hKe
          have HE : Hid (toBytes (L.take (8 * (j + 1))) = toBytes (L.take I) ++ [UInt8.ofNat (valB ((L.drop I).take 8))]) := by
            rw [← HI.out]
            exact toBytes_take L j (by have := HSZ.out; have := HI.out; omega)
          generalize valB ((L.drop I).take 8) = y at *
          have hlen : (toBytes (L.take I)).length ≤ 100000 := by rw [toBytes_length, List.length_take]; omega
          generalize toBytes (L.take I) = o at *
          obtain ⟨ao, cp, rfl⟩ := OwnB.form HO.out
          go_wp2_with (at_builtin; refine wpList_append_own _ rfl _ _ 37 rfl w.heap.size 5 i0 (.int .u8 0) 1 1 Tryz.underlying37 hi hz0 hz1 hz2 rfl (by decide) _ _ _ rfl (HO.out.alloc _) ⟨wr.heap.size, 0, none⟩ 1 1 [.int .u8 y] rfl rfl ?d1 ?d2 ?d3 ?d4 ?d5 ?_)
          case d1 => intro j u hj; exact cell_new1 _ _ _ j u hj
          case d2 => first | rfl | (intro u hu; simp at hu; subst hu; rfl)
          case d3 => unfold maxLen; omega
          case d4 => omega
          case d5 => first | omega | (simp; omega)
          intro v' w2 hown' hgrow _
          have hbw2 : Below w.heap.size w w2 := below_own (hb.alloc (by omega) _) (HO.out.alloc _) hgrow (Nat.le_refl _) (by simp; omega)
          have hown2 : OwnB w2 w.heap.size v' (toBytes (L.take (8 * (j + 1)))) := by
            rw [HE.out]
            have e5 : ((UInt8.ofNat y).toNat : Int) = y := by simp; omega
            unfold OwnB
            rw [cellsB_snoc, e5, List.length_append]
            exact hown'
          clear hown' hgrow
          go_wp2
          go_roundw
          case rel => exact ⟨j + 1, by have := HI.out; omega, by have := HI.out; go_num, hown2, hbw2⟩
          case measure => simp [intOf]; omega
    · have HE : Hid (toBytes (L.take I) = toBytes L) := by
        show _ = _
        have e1 := HSZ.out
        have e2 := HI.out
        have : L = L.take I ++ L.drop I := (List.take_append_drop _ _).symm
        conv => rhs; rw [this]
        rw [toBytes_append _ _ (by rw [List.length_take]; omega)]
        have : toBytes (L.drop I) = [] := List.eq_nil_of_length_eq_zero (by rw [toBytes_length, List.length_drop]; omega)
        rw [this, List.append_nil]
      go_wp2
      go_ret
      exact ⟨_, rfl, by rw [← HE.out]; exact HO.out, hb⟩
/-- The bytes so far: the three of the constant, or what the call has made of them. -/
def OutB (w : World) (B : Nat) (v : Value) (out : List UInt8) : Prop :=
  OwnB w B v out ∨ ∃ g, v = .slice (some ⟨g, 0, none⟩) 3 3 ∧ out = [80, 90, 49] ∧ w.heap[g]? = some (.cells #[.int .u8 80, .int .u8 90, .int .u8 49] 5 (3, 4))
theorem OutB.below {w w' : World} {B : Nat} {v : Value} {out : List UInt8} (h : OutB w B v out) (hb : Below w.heap.size w w') : OutB w' B v out := by
  rcases h with h | ⟨g, h1, h2, h3⟩
  · exact .inl (h.below hb)
  · exact .inr ⟨g, h1, h2, by rw [hb.block g (Array.getElem?_eq_some_iff.1 h3).1]; exact h3⟩
theorem OutB.alloc {w : World} {B : Nat} {v : Value} {out : List UInt8} (h : OutB w B v out) (o : Obj) : OutB (w.alloc o) B v out :=
  h.below ((Below.refl _ _).alloc (Nat.le_refl _) o)
theorem OutB.form {w : World} {B : Nat} {v : Value} {out : List UInt8} (h : OutB w B v out) : ∃ ao cp, v = .slice ao out.length cp := by
  rcases h with h | ⟨g, rfl, rfl, _⟩
  · exact h.form
  · exact ⟨_, _, rfl⟩
theorem wpList_append_out {w : World} {ops : Array Oper} {rest : List Oper} {o : Oper} {a : Act} {Q : Exit → Act → World → Prop} (hgd : o.guard = none) (s x : Operand)
    (ho : o.op = .call { callee := .builtin .append, args := #[s, x], argTypes := #[37, 37] }) (B : Nat) (v : Value) (out nb : List UInt8) (hs : a.eval s = v) (hout : OutB w B v out)
    (ad : Addr) (c : Nat) (hx : a.eval x = .slice (some ad) nb.length c) (hnb : 0 < nb.length) (hnews : ∀ j, j < nb.length → w.cell? (ad.add j) = some (.int .u8 (nb.getD j 0).toNat)) (hlen : out.length + nb.length ≤ 1000000) (hB : B ≤ w.heap.size)
    (h : ∀ v' w', OwnB w' B v' (out ++ nb) → Below B w w' → wpList Tryz.prog ops Q rest (a.put o.dst v') w') : wpList Tryz.prog ops Q (o :: rest) a w := by
  obtain ⟨i0, hi, hz0, hz1, hz2⟩ := info_parts info8
  have hn : ∀ j u, (cellsB nb)[j]? = some u → w.cell? (ad.add j) = some u := fun j u hu => by
    have hj : j < nb.length := by
      have := (List.getElem?_eq_some_iff.1 hu).1
      rwa [cellsB_length] at this
    rw [hnews j hj]
    simp [cellsB, hj] at hu
    simp [hj, hu]
  have h1c : ∀ u ∈ cellsB nb, u.oneCell' = true := fun u hu => by
    simp only [cellsB, List.mem_map] at hu
    obtain ⟨b, _, rfl⟩ := hu
    rfl
  refine wpList_plain hgd fun K hK => ?_
  rcases hout with h1 | ⟨g, rfl, rfl, hg⟩
  · obtain ⟨v', w', hr, r1, r2, _⟩ := run_append_own (P := Tryz.prog) w B 37 o.type 5 i0 (.int .u8 0) 1 1 Tryz.underlying37 hi hz0 hz1 hz2 rfl (by decide) v out.length (cellsB out) h1 ad nb.length c (cellsB nb) (by rw [cellsB_length]; omega) hn h1c (by unfold maxLen; omega) (by omega) hB
    have hb : Below B w w' := below_own (Below.refl _ _) h1 r2 (Nat.le_refl _) hB
    unfold Oper.wp
    simp [execOp, ho, resolve, invoke, builtin, hs, hx, hr, Result.andThen]
    refine hK _ _ (h v' w' ?_ hb)
    unfold OwnB
    rw [show cellsB (out ++ nb) = cellsB out ++ cellsB nb by simp [cellsB], List.length_append]
    exact r1
  · have holds : ∀ j u, (cellsB [80, 90, 49])[j]? = some u → w.cell? ((⟨g, 0, none⟩ : Addr).add j) = some u := fun j u hu => by
      have hadd : (⟨g, 0, none⟩ : Addr).add j = ⟨g, j, none⟩ := by unfold Addr.add; split <;> simp_all
      have hcs : (#[.int .u8 80, .int .u8 90, .int .u8 49] : Array Value)[j]? = (cellsB [80, 90, 49])[j]? := by simp [cellsB]
      rw [hadd, ← hu, ← hcs]
      simp [World.cell?, hg]
    obtain ⟨v', w', hr, r1, r2⟩ := run_append_arg_grows (P := Tryz.prog) w 37 o.type 5 i0 (.int .u8 0) 1 1 Tryz.underlying37 hi hz0 hz1 hz2 rfl (by decide) ⟨g, 0, none⟩ 3 3 (cellsB [80, 90, 49]) rfl holds ad nb.length c (cellsB nb) (by rw [cellsB_length]; omega) hn (by omega) (by unfold maxLen; omega) (by omega)
    have hb : Below B w w' := (Below.refl _ _).grown r2 hB (fun k h => by cases h)
    unfold Oper.wp
    simp [execOp, ho, resolve, invoke, builtin, hs, hx, hr, Result.andThen]
    refine hK _ _ (h v' w' ?_ hb)
    refine OwnB.le (B := w.heap.size) ?_ hB
    unfold OwnB
    rw [show cellsB ([80, 90, 49] ++ nb) = cellsB [80, 90, 49] ++ cellsB nb by simp [cellsB], List.length_append]
    exact r1
end Go.Proofs.YtnpnaglgllcpfaaGreat

/- What the document's Pack answers of pieces in memory. -/
namespace Go.Proofs.YtnpnaglgllcpfaaGreat
set_option maxRecDepth 100000
open Go.RowKit

theorem toBytes_magic : toBytes magicBits = [80, 90, 49] := by decide
theorem toBytes_end : toBytes endBits = [128] := by decide

theorem cell_128 (w : World) (j : Nat) (hj : j < ([128] : List UInt8).length) : (w.alloc (.cells #[.int .u8 128] 5)).cell? ((⟨w.heap.size, 0, none⟩ : Addr).add j) = some (.int .u8 (([128] : List UInt8).getD j 0).toNat) := by
  have hj0 : j = 0 := by simpa using hj
  subst hj0
  simp [Addr.add]

set_option maxHeartbeats 1000000 in
theorem refPack_calls (a : Option Addr) (ps : List (List Tok)) (cap : Nat) (w : World) (hl : ps.length ≤ 9223372036854775807) (ht : PiecesAt w a ps) :
    Calls Tryz.prog 40 #[.slice a ps.length cap] w fun e w' => Below w.heap.size w w' ∧ PackAns ps e (OwnB w' w.heap.size) := by
  have HT : Hid (PiecesAt w a ps) := ht
  clear ht
  have kc := fun (w : World) (C : Array Value) (n c : Nat) => Lib.run_convert_bytes_const (P := Tryz.prog) w 37 5 C n c Tryz.underlying37 Tryz.underlying5
  by_cases hlong : 600 < ps.length
  · go_enter Tryz.func40, Tryz.ntmps40
    go_wp2
    go_ret2
    exact ⟨Below.refl _ _, .inl ⟨hlong, rfl⟩⟩
  · have hn : ps.length ≤ 600 := by omega
    clear hlong
    go_enter Tryz.func40, Tryz.ntmps40
    go_wp2
    go_loopw [4, 5] (fun v i wr => ∃ (k : Nat), k ≤ ps.length ∧ i = .int .i64 k ∧ Hid (∀ j, j < k → okAt ps.length j (ps.getD j []) = true) ∧ Hid (OutB wr w.heap.size v (toBytes (magicBits ++ frames ps k))) ∧ Below w.heap.size w wr) (fun _ i _ => ps.length - (intOf i).toNat)
    case atStart =>
      refine ⟨0, Nat.zero_le _, rfl, fun j hj => by omega, ?_, (Below.refl _ _).alloc (Nat.le_refl _) _⟩
      refine .inr ⟨w.heap.size, rfl, ?_, heap_alloc_new w _⟩
      rw [show magicBits ++ frames ps 0 = magicBits by simp [frames]]
      exact toBytes_magic
    case round =>
      obtain ⟨k, hk, rfl, hok, hout, hb⟩ := hrel
      clear kc
      have hs := hb.size
      have hfs := frames_short ps k hk hok.out
      have hfull : Hid ((magicBits ++ frames ps k).length % 8 = 0) := by show _ = _; rw [List.length_append, magic_length]; have := frames_full ps k; omega
      have hlen : (toBytes (magicBits ++ frames ps k)).length ≤ 160000 := by rw [toBytes_length, List.length_append, magic_length]; omega
      by_cases hlt : k < ps.length
      · obtain ⟨b, off, ha, hbl, hcell⟩ : ∃ b off, a = some ⟨b, off, none⟩ ∧ b < w.heap.size ∧ ∀ i, i < ps.length → ∃ ai ci, w.cell? ⟨b, off + i, none⟩ = some (.slice ai (ps.getD i []).length ci) ∧ (ps.getD i []).length ≤ 9223372036854775807 ∧ ToksAt w ai (ps.getD i []) := by
          rcases HT.out with h | h
          · rw [h] at hlt; simp at hlt
          · exact h
        subst ha
        obtain ⟨ai, ci, c0', hlt2, htk⟩ := hcell k hlt
        have c0 := c0'
        rw [← hb.cell (p := ⟨b, _, none⟩) hbl] at c0
        clear hcell
        have HC0 : Hid (w.cell? ⟨b, off + k, none⟩ = some (.slice ai (ps.getD k []).length ci)) := c0'
        clear c0'
        have HF : Hid (frames ps (k + 1) = frames ps k ++ frameBits (ps.getD k []) (made (ps.getD k []))) := frames_succ ps k hlt
        generalize hps : ps.getD k [] = ts at *
        have HPS : Hid _ := hps
        have HTK : Hid (ToksAt w ai ts) := htk
        clear hps htk
        go_wp2_with fail
        refine (make_calls ai ts ci _ hlt2 (HTK.out.below hb)).mono ?_
        rintro e w2 ⟨hb2, hans⟩
        have hout2 : Hid (OutB w2 w.heap.size u4 (toBytes (magicBits ++ frames ps k))) := OutB.below hout.out hb2
        have hs2 := hb2.size
        have hbb : Below w.heap.size w w2 := hb.trans (hb2.mono hs)
        have hlast : ((k : Int) == (ps.length : Int) - 1) = decide (k + 1 = ps.length) := by rw [Bool.eq_iff_iff]; simp; omega
        have c2 : w2.cell? ⟨b, off + k, none⟩ = some (.slice ai ts.length ci) := by rw [hbb.cell (p := ⟨b, _, none⟩) hbl]; exact HC0.out
        clear c0
        rcases hans with ⟨he, rfl⟩ | ⟨out, v2, he, ho, rfl, hown⟩
        · have HE : Hid (okAt ps.length k (ps.getD k []) = false) := by
            show _ = _
            rw [HPS.out]; unfold okAt; rw [Tok.okB_none he]; rfl
          clear he
          go_wp2
          go_ret2
          exact ⟨hbb, .inr (.inl ⟨hn, ⟨k, hlt, HE.out⟩, rfl⟩)⟩
        · have HOK : Hid (okAt ps.length k (ps.getD k []) = true ↔ out.length = 64 ∨ k + 1 = ps.length ∧ 1 ≤ out.length) := by
            show _ ↔ _
            rw [HPS.out]
            have hm : made ts = out := by simp [made, he]
            unfold okAt
            rw [Tok.okB_some he, hm]
            simp
          have HE : Hid _ := he
          have HM : Hid (made ts = out) := by show _ = _; simp [made, he]
          obtain ⟨pa, pc, rfl, hpa, hpo⟩ := BytesAt.own hown
          have HPA : Hid (BytesAt w2 pa out) := hpa
          have HPO : Hid (∀ b off, pa = some ⟨b, off, none⟩ → b < w2.heap.size) := fun b' off' e => (World.ownsRow.lt hown b' (hpo b' off' e).2).2
          clear he hown hpa hpo
          by_cases hz : out.length = 0
          · have HQ : Hid (okAt ps.length k (ps.getD k []) = false) := by
              show _ = _
              rw [Bool.eq_false_iff]
              intro h
              have := HOK.out.1 h
              omega
            have hz' : ((out.length : Int) == 0) = true := by simpa using hz
            go_wp2
            go_ret2
            exact ⟨hbb, .inr (.inl ⟨hn, ⟨k, hlt, HQ.out⟩, rfl⟩)⟩
          · have hz' : ((out.length : Int) == 0) = false := beq_eq_false_iff_ne.2 (by omega)
            by_cases hbad : ¬ k + 1 = ps.length ∧ out.length < 64
            · have HQ : Hid (okAt ps.length k (ps.getD k []) = false) := by
                show _ = _
                rw [Bool.eq_false_iff]
                intro h
                have := HOK.out.1 h
                omega
              have hd : decide (k + 1 = ps.length) = false := by simpa using hbad.1
              have h64 : out.length < 64 := hbad.2
              clear hbad
              go_wp2
              go_ret2
              exact ⟨hbb, .inr (.inl ⟨hn, ⟨k, hlt, HQ.out⟩, rfl⟩)⟩
            · have hgood : k + 1 = ps.length ∨ 64 ≤ out.length := by
                by_cases hkn : k + 1 = ps.length
                · exact .inl hkn
                · exact .inr (by rcases Nat.lt_or_ge out.length 64 with h | h; exact absurd ⟨hkn, h⟩ hbad; exact h)
              have HQ : Hid (okAt ps.length k (ps.getD k []) = true) := HOK.out.2 (by omega)
              obtain ⟨out', he', hm', ho', hto, hall⟩ := ok_facts (okAt_ok HQ.out)
              rw [HPS.out] at hall hto
              have HALL : Hid (∀ t ∈ ts, Tok.plainB t ∧ Tok.cost t ≤ 31) := hall
              have hto64 : ts.length ≤ 64 := by omega
              clear hall he' hm' ho' hto
              have key : Calls Tryz.prog 69 #[.slice ai ts.length ci, .slice pa out.length pc] w2 fun e w' => e = .returned (.string (text (frameBits ts out))) ∧ Below w2.heap.size w2 w' :=
                frame_calls ai pa ts out ci pc w2 hto64 ho (HTK.out.below hbb) HPA.out HPO.out HALL.out
              have HKEY : Hid _ := key
              clear key
              have HFB : Hid ((frameBits ts out).length ≤ 2100) := frameBits_short ts out hto64 ho HALL.out
              have HFF : Hid ((frameBits ts out).length % 8 = 0) := frameBits_full ts out
              have HN8 : Hid (8 ≤ (frameBits ts out).length) := by
                show _ ≤ _
                unfold frameBits
                simp only [List.length_append, bin_length]; omega
              have HOKS : Hid (∀ j, j < k + 1 → okAt ps.length j (ps.getD j []) = true) := fun j hj => by
                rcases Nat.lt_or_ge j k with h | h
                · exact hok.out j h
                · have : j = k := by omega
                  subst this; exact HQ.out
              have HTB : Hid (toBytes (magicBits ++ frames ps (k + 1)) = toBytes (magicBits ++ frames ps k) ++ toBytes (frameBits ts out)) := by
                show _ = _
                rw [HF.out, HM.out, ← List.append_assoc, toBytes_append _ _ hfull.out]
              generalize toBytes (magicBits ++ frames ps k) = o at *
              clear hbad
              by_cases hkn : k + 1 = ps.length
              all_goals
                first
                | rw [decide_eq_true hkn] at hlast
                | rw [decide_eq_false hkn] at hlast
                have h64' : 64 ≤ out.length ∨ k + 1 = ps.length := by omega
                clear hgood
                obtain ⟨ao, cp, rfl⟩ := OutB.form hout.out
                first
                | (have h64 : 64 ≤ out.length := h64'.elim id (fun h => absurd h hkn))
                | skip
                clear h64' hkn
                go_wp2_with fail
                refine (Calls.mono HKEY.out ?_)
                rintro e w3 ⟨rfl, hb3⟩
                have hout3 : Hid (OutB w3 w.heap.size (.slice ao o.length cp) o) := OutB.below hout2.out hb3
                have hs3 := hb3.size
                have hbb3 : Below w.heap.size w w3 := hbb.trans (hb3.mono (by omega))
                clear hb3
                go_wp2_with fail
                refine (refBytes_calls (frameBits ts out) _ (by have := HFB.out; omega)).mono ?_
                rintro e w4 ⟨v4, rfl, hown4, hb4⟩
                have hout4 : Hid (OutB w4 w.heap.size (.slice ao o.length cp) o) := OutB.below hout3.out hb4
                have hs4 := hb4.size
                have hbb4 : Below w.heap.size w w4 := hbb3.trans (hb4.mono (by omega))
                have HT4 : Hid (0 < (toBytes (frameBits ts out)).length ∧ (toBytes (frameBits ts out)).length ≤ 300) := by
                  show _ ∧ _
                  rw [toBytes_length]
                  have h1 := HFB.out
                  have h2 := HN8.out
                  omega
                generalize toBytes (frameBits ts out) = nb at *
                obtain ⟨g4, c4, rfl, _, _, hc4⟩ := hown4.at HT4.out.1
                have HC4 : Hid (∀ j, j < nb.length → w4.cell? ((⟨g4, 0, none⟩ : Addr).add j) = some (.int .u8 (nb.getD j 0).toNat)) := fun j hj => by
                  have hadd : (⟨g4, 0, none⟩ : Addr).add j = ⟨g4, j, none⟩ := by unfold Addr.add; split <;> simp_all
                  rw [hadd]; exact hc4 j hj
                clear hb4 hown4 hc4
                go_wp2_with (at_builtin; refine wpList_append_out rfl (.tmp 56) (.tmp 58) rfl w.heap.size _ o nb rfl hout4.out ⟨g4, 0, none⟩ c4 rfl HT4.out.1 HC4.out (by have := HT4.out.2; omega) (by omega) ?_; intro v5 w5 hown5 hb5)
                have hbb5 : Below w.heap.size w w5 := hbb4.trans hb5
                have HO5 : Hid (OutB w5 w.heap.size v5 (toBytes (magicBits ++ frames ps (k + 1)))) := by
                  rw [HTB.out]; exact .inl hown5
                clear hb5 hown5
                go_wp2
                go_roundw
                case rel => exact ⟨k + 1, by omega, by go_num, HOKS, HO5, hbb5⟩
                case measure => simp [intOf]; omega
      · have hke : k = ps.length := by omega
        have HKE : Hid _ := hke
        clear hke
        have HTB : Hid (toBytes (magicBits ++ frames ps k ++ endBits) = toBytes (magicBits ++ frames ps k) ++ [128]) := by
          show _ = _
          rw [toBytes_append _ _ hfull.out, toBytes_end]
        generalize toBytes (magicBits ++ frames ps k) = o at *
        obtain ⟨ao, cp, rfl⟩ := OutB.form hout.out
        go_wp2_with (at_builtin; refine wpList_append_out rfl (.tmp 60) (.tmp 61) rfl w.heap.size _ o [128] rfl (OutB.alloc hout.out _) ⟨wr.heap.size, 0, none⟩ 1 rfl (by decide) (fun j hj => cell_128 wr j hj) (by simp; omega) (by simp; omega) ?_; intro v5 w5 hown5 hb5)
        have hbb5 : Below w.heap.size w w5 := (hb.alloc hs _).trans hb5
        have HO5 : Hid (OwnB w5 w.heap.size v5 (toBytes (magicBits ++ frames ps k ++ endBits))) := by rw [HTB.out]; exact hown5
        clear hown5 hb5
        go_wp2
        go_ret2
        refine ⟨hbb5, .inr (.inr ⟨hn, fun j hj => hok.out j (by rw [HKE.out]; exact hj), v5, rfl, ?_⟩)⟩
        rw [← HKE.out]
        exact HO5.out
end Go.Proofs.YtnpnaglgllcpfaaGreat

/- Which of two tokens goes ahead: pressref.Before. -/
namespace Go.Proofs.YtnpnaglgllcpfaaGreat
set_option maxRecDepth 100000
open Go.RowKit

set_option maxHeartbeats 1000000 in
theorem before_calls (l d x m e y : Int) (w : World) :
    Calls Tryz.prog 120 #[.agg #[.int .i64 l, .int .i64 d, .int .i64 x], .agg #[.int .i64 m, .int .i64 e, .int .i64 y]] w fun r w' => r = .returned (.bool (beforeB ⟨l, d, x⟩ ⟨m, e, y⟩)) ∧ Below w.heap.size w w' := by
  have HBW : Hid (∀ o1 o2 : Obj, Below w.heap.size w ((w.alloc o1).alloc o2)) := fun o1 o2 => ((Below.refl _ _).alloc (Nat.le_refl _) _).alloc (by simp) _
  go_enter Tryz.func120, Tryz.ntmps120
  go_wp2
  all_goals
    go_ret
    refine ⟨retB ?_, HBW.out _ _⟩
    simp only [beforeB]
    split <;> simp_all
  by_cases h : e = 0 <;> simp [h]
end Go.Proofs.YtnpnaglgllcpfaaGreat
