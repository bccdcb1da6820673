/-
  The laws Parses and Counts, out of what Parse and Ways answer.
-/
import Derived.Test.YtnpnaglgllcpfaaBt
import Derived.Test.YtnpnaglgllcpfaaReads0
import Derived.StillTailTactics
namespace Go.Proofs.Ytnpnaglgllcpfaa
set_option maxRecDepth 100000
open Go.RowKit

set_option maxHeartbeats 1000000 in
theorem counted_calls (hW : WaysSaid) (a : Option Addr) (p : List UInt8) (cap : Nat) (w : World) (hl : p.length ≤ 9223372036854775807) (hb : BytesAt w a p) :
    Calls Try.prog 21 #[.slice a p.length cap] w fun e w' => Below w.heap.size w w' ∧ e = .returned (.bool true) := by
  have HB : Hid (BytesAt w a p) := hb
  have HW : Hid WaysSaid := hW
  clear hb hW
  go_enter Try.func21, Try.ntmps21
  go_wp2_with fail
  refine (HW.out a p cap w hl HB.out).mono ?_
  rintro e w1 ⟨hb1, ⟨hlong, rfl⟩ | ⟨hshort, rfl⟩⟩
  · have HB1 : Hid (Below w.heap.size w w1) := hb1
    clear hb1
    go_wp2_with ((go_at_call 43; go_in))
    go_ret
    exact ⟨HB1.out, rfl⟩
  · have HB1 : Hid (Below w.heap.size w w1) := hb1
    have hs1 := hb1.size
    clear hb1
    go_wp2_with fail
    refine (least_calls a p cap _ hshort (bytesAt_below2 HB.out HB1.out)).mono ?_
    rintro e w2 ⟨hb2, rfl⟩
    have HB2 : Hid (Below w.heap.size w w2) := HB1.out.trans (hb2.mono hs1)
    clear hb2
    generalize leastC p = C at *
    generalize cap9 (leastW p : Int) = U at *
    go_wp2_with ((go_at_call 43; go_in))
    go_ret
    exact ⟨HB2.out, rfl⟩
set_option maxHeartbeats 1000000 in
theorem parsed_calls (f : List UInt8 → List Tok) (hf : Chosen f) (hP : ParseSaid f) (a : Option Addr) (p : List UInt8) (cap : Nat) (w : World) (hl : p.length ≤ 9223372036854775807) (hb : BytesAt w a p) :
    Calls Try.prog 20 #[.slice a p.length cap] w fun e w' => Below w.heap.size w w' ∧ ∃ v, e = .returned (.tuple #[v, .bool true]) := by
  have HB : Hid (BytesAt w a p) := hb
  have HP : Hid (ParseSaid f) := hP
  have HF : Hid (Chosen f) := hf
  clear hb hP hf
  go_enter Try.func20, Try.ntmps20
  go_wp2_with fail
  refine (HP.out a p cap w hl HB.out).mono ?_
  rintro e w1 ⟨hb1, ⟨hlong, ta, c, rfl⟩ | ⟨hshort, v, rfl, hrow⟩⟩
  · have HB1 : Hid (Below w.heap.size w w1) := hb1
    clear hb1
    go_wp2_with ((go_at_call 43; go_in))
    go_ret2
    exact ⟨HB1.out, _, rfl⟩
  · have HB1 : Hid (Below w.heap.size w w1) := hb1
    have hs1 := hb1.size
    have HTK : Hid (TokRow w1 w.heap.size v (f p)) := hrow
    obtain ⟨to, tc, rfl⟩ := hrow.form
    clear hb1 hrow
    have htl := own_max HTK.out
    go_wp2_with ((go_at_call 43; go_in))
    refine (best_calls a to p (f p) cap tc _ hshort htl (bytesAt_below2 HB.out HB1.out) (TokRow.toks HTK.out)).mono ?_
    rintro e w2 ⟨hb2, rfl⟩
    have HB2 : Hid (Below w.heap.size w w2) := HB1.out.trans (hb2.mono hs1)
    rw [HF.out p hshort]
    clear hb2
    go_wp2
    go_ret2
    exact ⟨HB2.out, _, rfl⟩
theorem countsLaw_calls (hW : WaysSaid) (s : ByteArray) (hs : s.size ≤ 9223372036854775807) (w : World) :
    Calls Try.prog 8 #[.string s] w fun e w' => e = .returned (.bool true) ∧ Below w.heap.size w w' := by
  have hconv := fun wx => run_bytes_of_string (P := Try.prog) wx 9 22 5 s Try.underlying9 Try.underlying22 Try.underlying5
  have HW : Hid WaysSaid := hW
  have HL : Hid (s.data.toList.length = s.size) := rfl
  clear hW
  go_enter Try.func8, Try.ntmps8
  go_wp2_with fail
  have h1 := counted_calls HW.out (some ⟨w.heap.size, 0, none⟩) s.data.toList (grownCap w s.size 0 5) _ (by rw [HL.out]; exact hs) (BytesAt.new s w (grownCap w s.size 0 5) ((bytesRow s (grownCap w s.size 0 5)).size, (bytesRow s (grownCap w s.size 0 5)).size + 1))
  rw [HL.out] at h1
  refine (Calls.mono h1 ?_)
  rintro e w1 ⟨hb1, rfl⟩
  have HB1 : Hid (Below w.heap.size w w1) := (((Below.refl _ _).alloc (Nat.le_refl _) _).drew).trans (hb1.mono (by show w.heap.size ≤ (w.alloc _).heap.size; simp))
  clear h1 hb1
  go_wp2
  go_ret
  exact ⟨rfl, HB1.out⟩
theorem parsesLaw_calls (f : List UInt8 → List Tok) (hf : Chosen f) (hP : ParseSaid f) (s : ByteArray) (hs : s.size ≤ 9223372036854775807) (w : World) :
    Calls Try.prog 7 #[.string s] w fun e w' => e = .returned (.bool true) ∧ Below w.heap.size w w' := by
  have hconv := fun wx => run_bytes_of_string (P := Try.prog) wx 9 22 5 s Try.underlying9 Try.underlying22 Try.underlying5
  have HP : Hid (ParseSaid f) := hP
  have HF : Hid (Chosen f) := hf
  have HL : Hid (s.data.toList.length = s.size) := rfl
  clear hP hf
  go_enter Try.func7, Try.ntmps7
  go_wp2_with fail
  have h1 := parsed_calls f HF.out HP.out (some ⟨w.heap.size, 0, none⟩) s.data.toList (grownCap w s.size 0 5) _ (by rw [HL.out]; exact hs) (BytesAt.new s w (grownCap w s.size 0 5) ((bytesRow s (grownCap w s.size 0 5)).size, (bytesRow s (grownCap w s.size 0 5)).size + 1))
  rw [HL.out] at h1
  refine (Calls.mono h1 ?_)
  rintro e w1 ⟨hb1, v1, rfl⟩
  have HB1 : Hid (Below w.heap.size w w1) := (((Below.refl _ _).alloc (Nat.le_refl _) _).drew).trans (hb1.mono (by show w.heap.size ≤ (w.alloc _).heap.size; simp))
  clear h1 hb1
  go_wp2
  go_ret
  exact ⟨rfl, HB1.out⟩
end Go.Proofs.Ytnpnaglgllcpfaa
