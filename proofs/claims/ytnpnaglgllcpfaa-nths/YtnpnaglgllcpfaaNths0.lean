/-
  The law Nths, out of what Nth answers.
-/
import Derived.Test.YtnpnaglgllcpfaaRnk
namespace Go.Proofs.Ytnpnaglgllcpfaa
set_option maxRecDepth 100000
open Go.RowKit

set_option maxHeartbeats 1000000 in
theorem numbered_calls (f : List UInt8 → Int → List Tok) (hN : NthSaid f) (a : Option Addr) (p : List UInt8) (cap : Nat) (k : Int) (w : World) (hl : p.length ≤ 9223372036854775807) (hb : BytesAt w a p) :
    Calls Try.prog 22 #[.slice a p.length cap, .int .i64 k] w fun e w' => Below w.heap.size w w' ∧ ∃ v, e = .returned (.tuple #[v, .bool true]) := by
  have HB : Hid (BytesAt w a p) := hb
  have HN : Hid (NthSaid f) := hN
  clear hb hN
  go_enter Try.func22, Try.ntmps22
  go_wp2_with fail
  refine (HN.out a p cap k w hl HB.out).mono ?_
  rintro e w1 ⟨hb1, v, ts, c, rfl, hrow, hok, _⟩
  have HB1 : Hid (Below w.heap.size w w1) := hb1
  have HTK : Hid (TokRow w1 w.heap.size v ts) := hrow
  have HOK : Hid (NumOk p k ts c) := hok
  have htl := own_max hrow
  obtain ⟨to, tc, rfl⟩ := hrow.form
  clear hb1 hrow hok
  go_wp2_with ((go_at_call 43; go_in))
  refine (numberedRef_calls a to p k ts c cap tc _ htl hl (bytesAt_below2 HB.out HB1.out) (TokRow.toks HTK.out) HOK.out).mono ?_
  rintro e w2 ⟨hb2, rfl⟩
  have HB2 : Hid (Below w.heap.size w w2) := HB1.out.trans (hb2.mono HB1.out.size)
  clear hb2
  go_wp2
  go_ret2
  exact ⟨HB2.out, _, rfl⟩
theorem nthsLaw_calls (f : List UInt8 → Int → List Tok) (hN : NthSaid f) (s : ByteArray) (hs : s.size ≤ 9223372036854775807) (k : Int) (w : World) :
    Calls Try.prog 9 #[.string s, .int .i64 k] w fun e w' => e = .returned (.bool true) ∧ Below w.heap.size w w' := by
  have hconv := fun wx => run_bytes_of_string (P := Try.prog) wx 9 22 5 s Try.underlying9 Try.underlying22 Try.underlying5
  have HN : Hid (NthSaid f) := hN
  have HL : Hid (s.data.toList.length = s.size) := rfl
  clear hN
  go_enter Try.func9, Try.ntmps9
  go_wp2_with fail
  have h1 := numbered_calls f HN.out (some ⟨w.heap.size, 0, none⟩) s.data.toList (grownCap w s.size 0 5) k _ (by rw [HL.out]; exact hs) (BytesAt.new s w (grownCap w s.size 0 5) ((bytesRow s (grownCap w s.size 0 5)).size, (bytesRow s (grownCap w s.size 0 5)).size + 1))
  rw [HL.out] at h1
  refine (Calls.mono h1 ?_)
  rintro e w1 ⟨hb1, v1, rfl⟩
  have HB1 : Hid (Below w.heap.size w w1) := (((Below.refl _ _).alloc (Nat.le_refl _) _).drew).trans (hb1.mono (by show w.heap.size ≤ (w.alloc _).heap.size; simp))
  clear h1 hb1
  go_wp2
  go_ret
  exact ⟨rfl, HB1.out⟩
end Go.Proofs.Ytnpnaglgllcpfaa
