/-
  What the program's reader of streams answers of bytes in memory.
-/
import Derived.Test.YtffkklaeliffdabSb7
namespace Go.Proofs.Ytffkklaeliffdab
set_option maxRecDepth 100000
open Go.RowKit

/-- How Read of streams ends. -/
def SReadAns (w w' : World) (l : List UInt8) (r : Ending) : Prop :=
  Below w.heap.size w w' ∧ ((∃ c, c ≠ 0 ∧ r = .returned (.tuple #[.slice none 0 0, .int .i64 c]) ∧ (rRead l).1 = c) ∨
    ∃ fs v, r = .returned (.tuple #[v, .int .i64 0]) ∧ FramesAt w' w.heap.size v fs ∧ fs.length ≤ 4096 ∧ (dataOf fs).length ≤ 64 * fs.length ∧ (rRead l).1 = 0 ∧ (rRead l).2.1 = psOf fs ∧ (rRead l).2.2.1 = dataOf fs)

theorem FramesAt.le {w : World} {B B' : Nat} {v : Value} {fs : List (List Tok × List UInt8)} (h : FramesAt w B v fs) (hb : B' ≤ B) : FramesAt w B' v fs := by
  obtain ⟨vs, h1, h2⟩ := h
  refine ⟨vs, row_le h1 hb, fun i hi => ?_⟩
  obtain ⟨a, c, b, d, g1, g2, g3, g4, g5⟩ := h2 i hi
  exact ⟨a, c, b, d, g1, g2, row_le g3 hb, row_le g4 hb, g5⟩

set_option maxHeartbeats 1000000 in
theorem sread_calls (a : Option Addr) (l : List UInt8) (cap : Nat) (w : World) (hl : l.length ≤ 9223372036854775807) (hb : BytesAt w a l) :
    Calls Try.prog 30 #[.slice a l.length cap] w fun r w' => SReadAns w w' l r := by
  have HB : Hid (BytesAt w a l) := hb
  clear hb
  by_cases hlong : 4096 < l.length
  · have HR : Hid ((rRead l).1 = 1) := by show _ = _; rw [show rRead l = (1, [], [], []) from if_pos hlong]
    go_enter Try.func30, Try.ntmps30
    go_wp2
    go_ret2
    exact ⟨Below.refl _ _, .inl ⟨1, by decide, rfl, HR.out⟩⟩
  · have HR : Hid (rRead l = (match rMagic [80, 90, 49] (bitsIn l) with
      | .error c => (c, [], [], [])
      | .ok R => rMain (bitsIn l) ((bitsIn l).length + 1) [] [] [] R)) := if_neg hlong
    have hlen := bitsIn_length l
    have hl4 : l.length ≤ 4096 := by omega
    clear hlong
    go_enter Try.func30, Try.ntmps30
    go_wp2_with fail
    refine (newReader_calls a l cap w HB.out).mono ?_
    rintro r w1 ⟨rfl, hb1, hs1, hr1⟩
    have HB1 : Hid (Below w.heap.size w w1) := hb1
    have HR1 : Hid (RdrAt w1 w.heap.size a l cap 0) := hr1
    clear hb1 hr1
    go_wp2_with fail
    refine (readBegin_calls w.heap.size a l cap w1 HR1.out hl4).mono ?_
    rintro r w2 ⟨hk2, ⟨c, m, hmg, hc, hm, rfl, hr2⟩ | ⟨hmg, h24, rfl, hr2⟩⟩
    · have HE : Hid ((rRead l).1 = c) := by show _ = _; rw [HR.out, hmg]
      have HB2 : Hid (Below w.heap.size w w2) := HB1.out.trans (hk2.below (Nat.le_refl _) (by omega))
      have HC : Hid (c ≠ 0) := hc
      have hcb : (c != 0) = true := by simpa using hc
      clear hk2 hr2 hmg hc
      go_wp2
      go_ret2
      exact ⟨HB2.out, .inl ⟨c, HC.out, rfl, HE.out⟩⟩
    · have HE : Hid (rRead l = rMain (bitsIn l) ((bitsIn l).length + 1) [] [] [] ((bitsIn l).drop 24)) := by show _ = _; rw [HR.out, hmg]
      have HB2 : Hid (Below w.heap.size w w2) := HB1.out.trans (hk2.below (Nat.le_refl _) (by omega))
      have HR2 : Hid (RdrAt w2 w.heap.size a l cap 24) := hr2
      have hs2 := hk2.size
      clear hk2 hr2 hmg
      go_wp2_with fail
      refine (readFrames_calls w.heap.size a l cap 24 ((bitsIn l).length + 1) w2 HR2.out hl4 h24 (by decide) (by omega)).mono ?_
      rintro r w3 ⟨hk3, ⟨c, m, rfl, hc, hm, hr3, hres⟩ | ⟨fs, v, m, ends, rfl, hm, hm8, hr3, hfr, hfl, hdl, hres⟩⟩
      · have HF : Hid ((rRead l).1 = c) := by show _ = _; rw [HE.out, hres]
        have HB3 : Hid (Below w.heap.size w w3) := HB2.out.trans (hk3.below (Nat.le_refl _) (by omega))
        have HC : Hid (c ≠ 0) := hc
        have hcb : (c != 0) = true := by simpa using hc
        clear hk3 hr3 hres hc
        go_wp2
        go_ret2
        exact ⟨HB3.out, .inl ⟨c, HC.out, rfl, HF.out⟩⟩
      · have HF : Hid (rRead l = ((if m < (bitsIn l).length then 9 else 0), psOf fs, dataOf fs, ends)) := by show _ = _; rw [HE.out, hres]
        have HB3 : Hid (Below w.heap.size w w3) := HB2.out.trans (hk3.below (Nat.le_refl _) (by omega))
        have HR3 : Hid (RdrAt w3 w.heap.size a l cap m) := hr3
        have HFR : Hid (FramesAt w3 w.heap.size v fs) := hfr.le (by omega)
        obtain ⟨fo, fc, rfl⟩ := row_form hfr.choose_spec.1
        clear hk3 hr3 hfr hres
        by_cases hlt : m < (bitsIn l).length
        · have HG : Hid ((rRead l).1 = 9) := by show _ = _; rw [HF.out, if_pos hlt]
          have HD : Hid (decide (m < (bitsIn l).length) = true) := decide_eq_true hlt
          go_wp2_with fail
          refine (atEndR_calls w.heap.size a l cap m w3 HR3.out hl4 hm hm8).mono ?_
          rintro r w4 ⟨rfl, nd, rfl⟩
          rw [HD.out]
          go_wp2
          go_ret2
          exact ⟨below_drewN HB3.out _, .inl ⟨9, by decide, rfl, HG.out⟩⟩
        · have HG : Hid (rRead l = (0, psOf fs, dataOf fs, ends)) := by show _ = _; rw [HF.out, if_neg hlt]
          have HD : Hid (decide (m < (bitsIn l).length) = false) := decide_eq_false hlt
          go_wp2_with fail
          refine (atEndR_calls w.heap.size a l cap m w3 HR3.out hl4 hm hm8).mono ?_
          rintro r w4 ⟨rfl, nd, rfl⟩
          rw [HD.out]
          go_wp2
          go_ret2
          exact ⟨below_drewN HB3.out _, .inr ⟨fs, _, rfl, HFR.out.below (below_drewN (Below.refl _ _) _), hfl, hdl, by rw [HG.out], by rw [HG.out], by rw [HG.out]⟩⟩
end Go.Proofs.Ytffkklaeliffdab
