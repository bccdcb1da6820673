/-
  What the program's reader of streams answers of bytes in memory.
-/
import Derived.Test.YtnpnaglgllcpfabRon
namespace Go.Proofs.Ytnpnaglgllcpfab
set_option maxRecDepth 100000
open Go.RowKit

/-- How Read of streams ends. -/
def SReadAns (w w' : World) (l : List UInt8) (r : Ending) : Prop :=
  Below w.heap.size w w' ∧ ((∃ c, c ≠ 0 ∧ r = .returned (.tuple #[.slice none 0 0, .int .i64 c]) ∧ (rRead l).1 = c) ∨
    ∃ fs v, r = .returned (.tuple #[v, .int .i64 0]) ∧ FramesAt w' w.heap.size v fs ∧ fs.length ≤ 4096 ∧ (dataOf fs).length ≤ 64 * fs.length ∧ (rRead l).1 = 0 ∧ (rRead l).2.1 = psOf fs ∧ (rRead l).2.2.1 = dataOf fs)

set_option maxHeartbeats 1000000 in
theorem sread_calls (a : Option Addr) (l : List UInt8) (cap : Nat) (w : World) (hl : l.length ≤ 9223372036854775807) (hb : BytesAt w a l) :
    Calls Try.prog 36 #[.slice a l.length cap] w fun r w' => SReadAns w w' l r := by
  have HB : Hid (BytesAt w a l) := hb
  clear hb
  by_cases hlong : 4096 < l.length
  · have HR : Hid ((rRead l).1 = 1) := by show _ = _; rw [show rRead l = (1, [], [], []) from if_pos hlong]
    go_enter Try.func36, Try.ntmps36
    go_wp2
    go_ret2
    exact ⟨Below.refl _ _, .inl ⟨1, by decide, rfl, HR.out⟩⟩
  · have hl4 : l.length ≤ 4096 := by omega
    clear hlong
    go_enter Try.func36, Try.ntmps36
    go_wp2_with fail
    refine (readOn_calls a l cap 0 w hl4 (by omega) HB.out).mono ?_
    rintro r w1 ⟨hb1, fs, fo, fc, st', m, e, rfl, hfr, hfl, hdl, hm, hst, hrun, hstop⟩
    obtain ⟨ends, hread⟩ := hrun.read hstop hl4
    have HB1 : Hid (Below w.heap.size w w1) := hb1
    have HFR : Hid (FramesAt w1 w.heap.size (.slice fo fs.length fc) fs) := hfr
    have HRD : Hid (rRead l = (e, psOf fs, dataOf fs, ends)) := hread
    have hs1 := hb1.size
    clear hb1 hfr hrun hstop hread
    by_cases he : e = 0
    · subst he
      go_wp2
      go_ret2
      exact ⟨HB1.out.alloc hs1 _, .inr ⟨fs, _, rfl, HFR.out.below ((Below.refl _ _).alloc (Nat.le_refl _) _), hfl, hdl, by rw [HRD.out], by rw [HRD.out], by rw [HRD.out]⟩⟩
    · have heb : (e != 0) = true := by simpa using he
      have HE : Hid (e ≠ 0) := he
      clear he
      go_wp2
      go_ret2
      exact ⟨HB1.out.alloc hs1 _, .inl ⟨e, HE.out, rfl, by rw [HRD.out]⟩⟩
end Go.Proofs.Ytnpnaglgllcpfab
