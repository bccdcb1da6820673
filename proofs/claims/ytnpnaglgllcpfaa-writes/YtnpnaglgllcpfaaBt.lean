/-
  Are tokens right, do they make the piece, is their cost the least: pressref.Best.
-/
import Derived.Test.YtnpnaglgllcpfaaTto
import Derived.Test.YtnpnaglgllcpfaaCst
import Derived.Test.YtnpnaglgllcpfaaConv
import Derived.Laws.BytesArg
namespace Go.Proofs.Ytnpnaglgllcpfaa
set_option maxRecDepth 100000
open Go.RowKit

set_option maxHeartbeats 1000000 in
theorem best_calls (a b : Option Addr) (p : List UInt8) (ts : List Tok) (cap cb : Nat) (w : World) (hp : p.length ≤ 64) (hl : ts.length ≤ 9223372036854775807) (hb : BytesAt w a p) (ht : ToksAt w b ts) :
    Calls Try.prog 49 #[.slice a p.length cap, .slice b ts.length cb] w fun e w' => Below w.heap.size w w' ∧ e = .returned (.bool (bestB p ts)) := by
  have HB : Hid (BytesAt w a p) := hb
  have HT : Hid (ToksAt w b ts) := ht
  clear hb ht
  go_enter Try.func49, Try.ntmps49
  go_wp2_with fail
  refine (make_calls b ts cb w hl HT.out).mono ?_
  rintro e w1 ⟨hb1, ⟨hnone, rfl⟩ | ⟨out, v, hex, hol, rfl, hown⟩⟩
  · have HE : Hid (bestB p ts = false) := by show _ = _; unfold bestB; rw [hnone]
    have HB1 : Hid (Below w.heap.size w w1) := hb1
    clear hb1 hnone
    go_wp2
    go_ret
    exact ⟨HB1.out, by rw [HE.out]; rfl⟩
  · have HB1 : Hid (Below w.heap.size w w1) := hb1
    have HEX : Hid (Tok.expand [] ts = some out) := hex
    have HO : Hid (OwnB w1 w.heap.size v out) := hown
    have k1 := conv_own hown
    have k2 := conv_bytes cap (bytesAt_below2 HB.out hb1)
    have k1' := fun n => conv_own (w := w1.drewN n) hown
    have k2' := fun n => conv_bytes (w := w1.drewN n) cap (bytesAt_below2 HB.out (below_drewN hb1 n))
    have htl : ts.length ≤ 64 := by have := Tok.expand_many ts [] out hex; simp at this; omega
    have hs1 := hb1.size
    obtain ⟨ao, cp, rfl⟩ := hown.form
    clear hb1 hex hown
    by_cases hop : out = p
    · subst hop
      have hbe : Hid (bestB out ts = decide (Tok.costs ts = leastC out)) := by show _ = _; unfold bestB; rw [HEX.out]; simp
      go_wp2_with fail
      refine (least_calls a out cap _ hp (bytesAt_below2 HB.out HB1.out)).mono ?_
      rintro e w2 ⟨hb2, rfl⟩
      have HB2 : Hid (Below w.heap.size w w2) := HB1.out.trans (hb2.mono hs1)
      have hc1 := leastC_le out
      generalize hC : leastC out = C at *
      have HC : Hid (leastC out = C) := hC
      clear hb2 hC k1 k2 k1' k2'
      go_wp2_with fail
      refine (refCost_calls b ts cb _ htl (HT.out.below HB2.out) (Tok.expand_all ts [] out HEX.out)).mono ?_
      rintro e w3 ⟨rfl, hb3⟩
      have HB3 : Hid (Below w.heap.size w w3) := HB2.out.trans (hb3.mono HB2.out.size)
      clear hb3
      generalize hK : Tok.costs ts = K at *
      have HKK : Hid (Tok.costs ts = K) := hK
      clear hK
      go_wp2
      go_ret
      refine ⟨HB3.out, ?_⟩
      rw [hbe.out]
      by_cases hkc : K = C
      · subst hkc; simp
      · have : ((K : Int) == (C : Int)) = false := by simp; omega
        simp [hkc]
        omega
    · have HE : Hid (bestB p ts = false) := by show _ = _; unfold bestB; rw [HEX.out]; simp [hop]
      have hne : (!(out == p)) = true := by simp [hop]
      go_wp2
      go_ret
      exact ⟨HB1.out, by rw [HE.out]; rfl⟩
end Go.Proofs.Ytnpnaglgllcpfaa
