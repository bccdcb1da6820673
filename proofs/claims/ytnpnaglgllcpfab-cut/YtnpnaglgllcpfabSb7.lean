/-
  What the program's reader of frames does to memory: one part of a stream.
-/
import Derived.Test.YtnpnaglgllcpfabOn0
namespace Go.Proofs.Ytnpnaglgllcpfab
set_option maxRecDepth 100000
open Go.RowKit

/-- The stage behind a frame's bytes. -/
theorem behind_calls (ao bo : Option Addr) (nT cp nB bp : Nat) (w : World) (hn : nB ≤ 64) :
    Calls Try.prog 78 #[.agg #[.slice ao nT cp, .slice bo nB bp]] w fun r w' => r = .returned (.int .i64 ((if nB = 0 then 3 else if nB < 64 then 2 else 1 : Nat) : Int)) ∧ w' = w.alloc (.cells #[.slice ao nT cp, .slice bo nB bp] 73) := by
  have H : Hid (∀ k : Nat, k = (if nB = 0 then 3 else if nB < 64 then 2 else 1 : Nat) → k = (if nB = 0 then 3 else if nB < 64 then 2 else 1 : Nat)) := fun _ h => h
  generalize hk : (if nB = 0 then 3 else if nB < 64 then 2 else 1 : Nat) = k
  have HK : Hid ((if nB = 0 then 3 else if nB < 64 then 2 else 1 : Nat) = k) := hk
  clear hk H
  rcases Nat.eq_zero_or_pos nB with h0 | h0
  · subst h0
    have hk : k = 3 := by have := HK.out; simp at this; exact this.symm
    subst hk
    clear HK
    go_enter Try.func78, Try.ntmps78
    go_wp2
    go_ret
    exact ⟨rfl, rfl⟩
  · by_cases h64 : nB < 64
    · have hk : k = 2 := by have := HK.out; rw [if_neg (by omega), if_pos h64] at this; exact this.symm
      subst hk
      have h1 : ¬ (nB : Int) = 0 := by omega
      have h2 : (nB : Int) < 64 := by omega
      clear HK
      go_enter Try.func78, Try.ntmps78
      go_wp2
      go_ret
      exact ⟨rfl, rfl⟩
    · have hk : k = 1 := by have := HK.out; rw [if_neg (by omega), if_neg h64] at this; exact this.symm
      subst hk
      have h1 : ¬ (nB : Int) = 0 := by omega
      have h2 : ¬ (nB : Int) < 64 := by omega
      clear HK
      go_enter Try.func78, Try.ntmps78
      go_wp2
      go_ret
      exact ⟨rfl, rfl⟩

/-- How readPart ends. -/
def PartRAns (w w' : World) (q : Nat) (a : Option Addr) (l : List UInt8) (cap n st : Nat) (r : Ending) : Prop :=
  OneKept w w' q ∧ ((∃ c m, part st ((bitsIn l).drop n) = .error c ∧ c ≠ 0 ∧ m ≤ (bitsIn l).length ∧ r = .returned (.tuple #[.agg #[.slice none 0 0, .slice none 0 0], .int .i64 0, .int .i64 c]) ∧ RdrAt w' q a l cap m) ∨
    (∃ m st', part st ((bitsIn l).drop n) = .ok (none, (bitsIn l).drop m, st') ∧ n < m ∧ m ≤ (bitsIn l).length ∧ m % 8 = 0 ∧ (st' = 1 ∨ st' = 3) ∧ r = .returned (.tuple #[.agg #[.slice none 0 0, .slice none 0 0], .int .i64 (st' : Int), .int .i64 0]) ∧ RdrAt w' q a l cap m) ∨
    ∃ ts out m ao nT cp bo bp, part st ((bitsIn l).drop n) = .ok (some ts, (bitsIn l).drop m, stageOf out) ∧ n < m ∧ m ≤ (bitsIn l).length ∧ m % 8 = 0 ∧ made ts = out ∧ 1 ≤ out.length ∧ out.length ≤ 64 ∧ nT = ts.length ∧ r = .returned (.tuple #[.agg #[.slice ao nT cp, .slice bo out.length bp], .int .i64 (stageOf out : Int), .int .i64 0]) ∧ TokRow w' w.heap.size (.slice ao nT cp) ts ∧ OwnB w' w.heap.size (.slice bo out.length bp) out ∧ RdrAt w' q a l cap m)

theorem OneKept.ofBelow {w w' : World} {q : Nat} (h : Below w.heap.size w w') : OneKept w w' q := ⟨h.os, h.tape, h.output, h.size, fun k hk _ => h.block k hk⟩
theorem OneKept.back {w w' : World} {q : Nat} {o : Obj} (h : OneKept (w.alloc o) w' q) : OneKept w w' q := ((OneKept.refl w q).alloc o).trans h

theorem cell_alloc {W : World} {b i : Nat} {v : Value} (h : W.cell? ⟨b, i, none⟩ = some v) (o : Obj) : (W.alloc o).cell? ⟨b, i, none⟩ = some v := by
  rw [((Below.refl _ W).alloc (Nat.le_refl _) o).cell (p := ⟨b, i, none⟩) (World.block_lt_of_cell? W _ h)]; exact h

set_option maxHeartbeats 2000000 in
theorem readPart_calls (q : Nat) (a : Option Addr) (l : List UInt8) (cap n st : Nat) (w : World) (h : RdrAt w q a l cap n) (hl : l.length ≤ 4096) (hn : n ≤ (bitsIn l).length) (hst : st ≤ 2) (h0 : st = 0 → n = 0) :
    Calls Try.prog 70 #[.pointer (some ⟨q, 0, none⟩), .int .i64 st] w fun r w' => PartRAns w w' q a l cap n st r := by
  have hlen := bitsIn_length l
  have HR0 : Hid (RdrAt w q a l cap n) := h
  have hq := h.lt
  have hqn : w.heap.size ≠ q := by omega
  have HR : Hid (RdrAt (w.alloc (.cells #[.slice none 0 0, .slice none 0 0] 73)) q a l cap n) := h.below ((Below.refl _ _).alloc (Nat.le_refl _) _)
  clear h
  rcases Nat.eq_zero_or_pos st with hs0 | hs0
  · obtain rfl := h0 hs0
    subst hs0
    clear h0
    go_enter Try.func70, Try.ntmps70
    go_wp2_with fail
    refine (readBegin_calls q a l cap _ HR.out hl).mono ?_
    rintro r w1 ⟨ho, ⟨c, m, hmg, hc, hm, rfl, hr1⟩ | ⟨hmg, h24, rfl, hr1⟩⟩
    · have HE : Hid (part 0 ((bitsIn l).drop 0) = .error c) := part_begin_err hmg
      have HO : Hid (OneKept _ w1 q) := ho
      have HR1 : Hid (RdrAt w1 q a l cap m) := hr1
      have HC : Hid (c ≠ 0) := hc
      have hcb : (c != 0) = true := by simpa using hc
      clear ho hr1 hmg hc
      have HX1 := tok_box HO.out hqn
      obtain ⟨⟨b0, b1⟩, g0, g1⟩ := pair_cell HX1
      have hzz : w.heap.size < w1.heap.size := (Array.getElem?_eq_some_iff.1 HX1).1
      obtain ⟨r0, r1, r2⟩ := boxF_fin HR0.out HO.out HX1 HR1.out (.slice none 0 0) (.slice none 0 0)
      have R0 : Hid _ := r0
      have R1 : Hid (OneKept _ _ _) := r1
      have R2 : Hid (RdrAt _ _ _ _ _ _) := r2
      clear HX1 r0 r1 r2
      go_wp2
      obtain ⟨r0, r1⟩ := R0.out
      refine bodyPost_ret (v := .tuple #[.agg #[.slice none 0 0, .slice none 0 0], .int .i64 0, .int .i64 c]) (by simp [results, Try.results70, go_sem, r0, r1]) rfl ⟨R1.out, .inl ⟨c, m, HE.out, HC.out, hm, rfl, R2.out⟩⟩
    · have HE : Hid (part 0 ((bitsIn l).drop 0) = .ok (none, (bitsIn l).drop 24, 1)) := part_begin hmg
      have HO : Hid (OneKept _ w1 q) := ho
      have HR1 : Hid (RdrAt w1 q a l cap 24) := hr1
      clear ho hr1 hmg
      have HX1 := tok_box HO.out hqn
      obtain ⟨⟨b0, b1⟩, g0, g1⟩ := pair_cell HX1
      have hzz : w.heap.size < w1.heap.size := (Array.getElem?_eq_some_iff.1 HX1).1
      obtain ⟨r0, r1, r2⟩ := boxF_fin HR0.out HO.out HX1 HR1.out (.slice none 0 0) (.slice none 0 0)
      have R0 : Hid _ := r0
      have R1 : Hid (OneKept _ _ _) := r1
      have R2 : Hid (RdrAt _ _ _ _ _ _) := r2
      clear HX1 r0 r1 r2
      go_wp2
      obtain ⟨r0, r1⟩ := R0.out
      refine bodyPost_ret (v := .tuple #[.agg #[.slice none 0 0, .slice none 0 0], .int .i64 1, .int .i64 0]) (by simp [results, Try.results70, go_sem, r0, r1]) rfl ⟨R1.out, .inr (.inl ⟨24, 1, HE.out, by omega, h24, by omega, .inl rfl, rfl, R2.out⟩)⟩
  · have hsi : ¬ (st : Int) = 0 := by omega
    have hsn : st ≠ 0 := by omega
    have HB : Hid (∀ b : Bool, b = decide (st = 2) → Calls Try.prog 77 #[.pointer (some ⟨q, 0, none⟩), .bool b] (w.alloc (.cells #[.slice none 0 0, .slice none 0 0] 73)) fun r w' => FrameRAns (w.alloc (.cells #[.slice none 0 0, .slice none 0 0] 73)) w' q a l cap n (decide (st = 2)) r) := fun b hb => by
      rw [hb]
      exact readFrame_calls q a l cap n _ _ HR.out hl hn
    clear h0 hs0
    go_enter Try.func70, Try.ntmps70
    go_wp2_with fail
    refine Calls.mono (HB.out _ ?hb) ?_
    case hb => by_cases h2 : st = 2 <;> simp [h2] <;> omega
    clear HB
    rintro r w1 ⟨ho, ⟨c, m, hs, hc, hm, rfl, hr1⟩ | ⟨m, hs, hnm, hm, h8, rfl, hr1⟩ | ⟨ts, out, m, vT, vB, hs, hnm, hm, h8, hex, ho1, ho64, htl, rfl, hT, hO, hr1⟩⟩
    · have HE : Hid (part st ((bitsIn l).drop n) = .error c) := part_err hsn hs
      have HO : Hid (OneKept _ w1 q) := ho
      have HR1 : Hid (RdrAt w1 q a l cap m) := hr1
      have HC : Hid (c ≠ 0) := hc
      have hcb : (c != 0) = true := by simpa using hc
      clear ho hr1 hs hc
      have HX1 := tok_box HO.out hqn
      obtain ⟨⟨b0, b1⟩, g0, g1⟩ := pair_cell HX1
      have hzz : w.heap.size < w1.heap.size := (Array.getElem?_eq_some_iff.1 HX1).1
      obtain ⟨r0, r1, r2⟩ := boxF_fin HR0.out HO.out HX1 HR1.out (.slice none 0 0) (.slice none 0 0)
      have R0 : Hid _ := r0
      have R1 : Hid (OneKept _ _ _) := r1
      have R2 : Hid (RdrAt _ _ _ _ _ _) := r2
      clear HX1 r0 r1 r2
      go_wp2
      obtain ⟨r0, r1⟩ := R0.out
      refine bodyPost_ret (v := .tuple #[.agg #[.slice none 0 0, .slice none 0 0], .int .i64 0, .int .i64 c]) (by simp [results, Try.results70, go_sem, cell_alloc r0, cell_alloc r1]) rfl ⟨R1.out.alloc _, .inl ⟨c, m, HE.out, HC.out, hm, rfl, R2.out.below ((Below.refl _ _).alloc (Nat.le_refl _) _)⟩⟩
    · have HE : Hid (part st ((bitsIn l).drop n) = .ok (none, (bitsIn l).drop m, 3)) := part_none hsn hs
      have HO : Hid (OneKept _ w1 q) := ho
      have HR1 : Hid (RdrAt w1 q a l cap m) := hr1
      clear ho hr1 hs
      have HX1 := tok_box HO.out hqn
      obtain ⟨⟨b0, b1⟩, g0, g1⟩ := pair_cell HX1
      have hzz : w.heap.size < w1.heap.size := (Array.getElem?_eq_some_iff.1 HX1).1
      obtain ⟨r0, r1, r2⟩ := boxF_fin HR0.out HO.out HX1 HR1.out (.slice none 0 0) (.slice none 0 0)
      have R0 : Hid _ := r0
      have R1 : Hid (OneKept _ _ _) := r1
      have R2 : Hid (RdrAt _ _ _ _ _ _) := r2
      clear HX1 r0 r1 r2
      go_wp2_with fail
      go_region_with (go_at_call 78; refine (behind_calls _ _ _ _ _ _ _ (by omega)).mono ?_; rintro e w' ⟨rfl, rfl⟩)
      all_goals
        go_wp2
        obtain ⟨r0, r1⟩ := R0.out
        refine bodyPost_ret (v := .tuple #[.agg #[.slice none 0 0, .slice none 0 0], .int .i64 3, .int .i64 0]) (by simp [results, Try.results70, go_sem, cell_alloc (cell_alloc r0 _), cell_alloc (cell_alloc r1 _)]) rfl ⟨(OneKept.drewN ((R1.out.alloc _).alloc _) 1), .inr (.inl ⟨m, 3, HE.out, hnm, hm, h8, .inr rfl, rfl, R2.out.below (below_drewN (((Below.refl _ _).alloc (Nat.le_refl _) _).alloc (by simp) _) 1)⟩)⟩
    · have hmd : made ts = out := by simp [made, hex]
      have HE : Hid (part st ((bitsIn l).drop n) = .ok (some ts, (bitsIn l).drop m, stageOf out)) := by rw [← hmd]; exact part_some hsn hs
      have HO : Hid (OneKept _ w1 q) := ho
      have HR1 : Hid (RdrAt w1 q a l cap m) := hr1
      obtain ⟨ao, cp, rfl⟩ := hT.form
      obtain ⟨bo, bp, rfl⟩ := hO.form
      have HBH : Hid (∀ W, Calls Try.prog 78 #[.agg #[.slice ao ts.length cp, .slice bo out.length bp]] W fun r w' => r = .returned (.int .i64 (stageOf out : Int)) ∧ w' = W.alloc (.cells #[.slice ao ts.length cp, .slice bo out.length bp] 73)) := fun W => by
        refine (behind_calls _ _ _ _ _ _ _ ho64).mono ?_
        rintro e w' ⟨rfl, rfl⟩
        exact ⟨by rw [if_neg (by omega)]; rfl, rfl⟩
      have HT : Hid (TokRow w1 w.heap.size (.slice ao ts.length cp) ts) := row_le hT (by simp)
      have HB : Hid (OwnB w1 w.heap.size (.slice bo out.length bp) out) := row_le hO (by simp)
      have HMD : Hid (made ts = out) := hmd
      have hst2 : stageOf out ≤ 2 := by unfold stageOf; split <;> omega
      clear ho hr1 hs hT hO hmd hex
      have HX1 := tok_box HO.out hqn
      obtain ⟨⟨b0, b1⟩, g0, g1⟩ := pair_cell HX1
      have hzz : w.heap.size < w1.heap.size := (Array.getElem?_eq_some_iff.1 HX1).1
      obtain ⟨r0, r1, r2⟩ := boxF_fin HR0.out HO.out HX1 HR1.out (.slice ao ts.length cp) (.slice bo out.length bp)
      have R0 : Hid _ := r0
      have R1 : Hid (OneKept _ _ _) := r1
      have R2 : Hid (RdrAt _ _ _ _ _ _) := r2
      have R3 : Hid (TokRow ((w1.setCell ⟨w.heap.size, 0, none⟩ (.slice ao ts.length cp)).setCell ⟨w.heap.size, 1, none⟩ (.slice bo out.length bp)) w.heap.size (.slice ao ts.length cp) ts) := row_set (row_set HT.out HX1 (by decide)) (set_block HX1 _) (by decide)
      have R4 : Hid (OwnB ((w1.setCell ⟨w.heap.size, 0, none⟩ (.slice ao ts.length cp)).setCell ⟨w.heap.size, 1, none⟩ (.slice bo out.length bp)) w.heap.size (.slice bo out.length bp) out) := row_set (row_set HB.out HX1 (by decide)) (set_block HX1 _) (by decide)
      clear HX1 r0 r1 r2 HT HB
      generalize hSO : stageOf out = so at *
      generalize hnT : ts.length = nT at *
      generalize hnB : out.length = nB at *
      have HSO : Hid _ := hSO
      have HNT : Hid _ := hnT
      have HNB : Hid _ := hnB
      clear hSO hnT hnB
      go_wp2_with fail
      go_region_with (go_at_call 78; refine (HBH.out _).mono ?_; rintro e w' ⟨rfl, rfl⟩)
      all_goals
        go_wp2
        obtain ⟨r0, r1⟩ := R0.out
        refine bodyPost_ret (v := .tuple #[.agg #[.slice ao nT cp, .slice bo nB bp], .int .i64 so, .int .i64 0]) (by simp [results, Try.results70, go_sem, cell_alloc (cell_alloc r0 _), cell_alloc (cell_alloc r1 _)]) rfl ⟨(OneKept.drewN ((R1.out.alloc _).alloc _) 1), .inr (.inr ⟨ts, out, m, ao, nT, cp, bo, bp, by rw [HSO.out]; exact HE.out, hnm, hm, h8, HMD.out, by rw [HNB.out]; exact ho1, by rw [HNB.out]; exact ho64, HNT.out.symm, by rw [HNB.out, HSO.out], ?_, ?_, R2.out.below (below_drewN (((Below.refl _ _).alloc (Nat.le_refl _) _).alloc (by simp) _) 1)⟩)⟩
        · exact TokRow.below R3.out (below_drewN (((Below.refl _ _).alloc (Nat.le_refl _) _).alloc (by simp) _) 1)
        · rw [HNB.out]; exact OwnB.below R4.out (below_drewN (((Below.refl _ _).alloc (Nat.le_refl _) _).alloc (by simp) _) 1)
end Go.Proofs.Ytnpnaglgllcpfab
