/-
  The law Reads, out of what Decompress and Unpack answer.
-/
import Derived.Test.YtnpnaglgllcpfaaRdA
import Derived.Test.YtnpnaglgllcpfaaSame
import Derived.Laws.IdiomStrings
namespace Go.Proofs.Ytnpnaglgllcpfaa
set_option maxRecDepth 100000
open Go.RowKit

theorem num_calls (x : Int) (w : World) : Calls Try.prog 43 #[.int .i64 x] w fun e w' => e = .returned (.int .i64 x) ∧ w' = w := by
  go_enter Try.func43, Try.ntmps43
  go_wp2
  go_ret
  exact ⟨rfl, rfl⟩
set_option maxHeartbeats 1000000 in
theorem opened_calls (hD : DecSaid) (a : Option Addr) (l : List UInt8) (cap : Nat) (w : World) (hl : l.length ≤ 9223372036854775807) (hb : BytesAt w a l) :
    Calls Try.prog 18 #[.slice a l.length cap] w fun e w' => Below w.heap.size w w' ∧ ∃ v, e = .returned (.tuple #[v, .bool true]) := by
  have HB : Hid (BytesAt w a l) := hb
  have HD : Hid DecSaid := hD
  clear hb hD
  go_enter Try.func18, Try.ntmps18
  go_wp2_with fail
  refine (HD.out a l cap w hl HB.out).mono ?_
  rintro e w1 ⟨hb1, v, out, rfl, hown, hok, hbad⟩
  have HB1 : Hid (BytesAt w1 a l) := HB.out.below hb1
  have HO1 : Hid (OwnB w1 w.heap.size v out) := hown
  have HW1 : Hid (Below w.heap.size w w1) := hb1
  obtain ⟨ao, cp, rfl⟩ := hown.form
  have HOK : Hid _ := hok
  have HBAD : Hid _ := hbad
  clear hb1 hown hok hbad
  generalize hE : (rRead l).1 = E at *
  have HE : Hid ((rRead l).1 = E) := hE
  clear hE
  go_wp2_with fail
  refine (read_calls a l cap w1 hl HB1.out).mono ?_
  rintro e w2 ⟨hb2, rfl, L, n, vP, vD, vE, ht2, hl2⟩
  rw [HE.out] at ht2
  have HO2 : Hid (OwnB w2 w.heap.size (.slice ao out.length cp) out) := OwnB.below HO1.out hb2
  have HW2 : Hid (Below w.heap.size w w2) := HW1.out.trans (hb2.mono HW1.out.size)
  have HD2 : Hid (OwnB w2 (w1.heap.size + 1) vD (rRead l).2.2.1) := hl2.data
  obtain ⟨⟨c0, c1, c2⟩, f1, f2⟩ := ht2.cell
  obtain ⟨⟨d3, d4, d5⟩, _⟩ := ht2.lists
  clear hb2 ht2 hl2 c0 c1 f1 f2 d3 d5
  by_cases hz : E = 0
  · subst hz
    have ho : out = (rRead l).2.2.1 := HOK.out rfl
    have k1 := conv_drew HO2.out
    have k2 := conv_drew HD2.out
    rw [← ho] at k2
    clear ho
    go_wp2_with fail
    go_quiet ((go_at_call 43; exact Calls.quiet_of_same (num_calls _ _)))
    go_wp2
    go_ret2
    exact ⟨below_drewN HW2.out _, _, rfl⟩
  · have ho : out = [] := HBAD.out hz
    subst ho
    have hz' : (E != 0) = true := by simpa using hz
    go_wp2_with fail
    go_quiet ((go_at_call 43; exact Calls.quiet_of_same (num_calls _ _)))
    go_wp2
    go_ret2
    exact ⟨below_drewN HW2.out _, _, rfl⟩
set_option maxHeartbeats 1000000 in
theorem unpacked_calls (hU : UnpSaid) (a : Option Addr) (l : List UInt8) (cap : Nat) (w : World) (hl : l.length ≤ 9223372036854775807) (hb : BytesAt w a l) :
    Calls Try.prog 19 #[.slice a l.length cap] w fun e w' => Below w.heap.size w w' ∧ ∃ v, e = .returned (.tuple #[v, .bool true]) := by
  have HB : Hid (BytesAt w a l) := hb
  have HU : Hid UnpSaid := hU
  clear hb hU
  go_enter Try.func19, Try.ntmps19
  go_wp2_with fail
  refine (HU.out a l cap w hl HB.out).mono ?_
  rintro e w1 ⟨hb1, pa, ps, c, rfl, hps, hpl, hok, hbad⟩
  have HB1 : Hid (BytesAt w1 a l) := HB.out.below hb1
  have HP1 : Hid (PiecesAt w1 pa ps) := hps
  have HW1 : Hid (Below w.heap.size w w1) := hb1
  have HOK : Hid _ := hok
  have HBAD : Hid _ := hbad
  clear hb1 hps hok hbad
  generalize hE : (rRead l).1 = E at *
  have HE : Hid ((rRead l).1 = E) := hE
  clear hE
  go_wp2_with fail
  refine (read_calls a l cap w1 hl HB1.out).mono ?_
  rintro e w2 ⟨hb2, rfl, L, n, vP, vD, vE, ht2, hl2⟩
  rw [HE.out] at ht2
  have HP2 : Hid (PiecesAt w2 pa ps) := HP1.out.below hb2
  have HW2 : Hid (Below w.heap.size w w2) := HW1.out.trans (hb2.mono HW1.out.size)
  obtain ⟨pa2, c2', hvp, hpl2, hat⟩ := hl2.at
  subst hvp
  obtain ⟨⟨c0, c1, c2⟩, f1, f2⟩ := ht2.cell
  obtain ⟨⟨d3, d4, d5⟩, _⟩ := ht2.lists
  clear hb2 ht2 hl2 c0 c1 f1 f2 d4 d5
  by_cases hz : E = 0
  · subst hz
    have ho : ps = (rRead l).2.1 := HOK.out rfl
    rw [← ho] at d3 hat
    have HAT : Hid (PiecesAt w2 pa2 ps) := hat
    clear ho hat hpl2
    go_wp2_with (first | (go_at_call 43; go_in) | fail)
    refine (samePieces_calls pa pa2 ps c c2' _ hpl HP2.out HAT.out).mono ?_
    rintro e w3 ⟨rfl, nd, rfl⟩
    go_wp2
    go_ret2
    exact ⟨below_drewN HW2.out _, _, rfl⟩
  · have ho : ps = [] := HBAD.out hz
    subst ho
    have hz' : (E != 0) = true := by simpa using hz
    go_wp2_with fail
    go_quiet ((go_at_call 43; exact Calls.quiet_of_same (num_calls _ _)))
    go_wp2
    go_ret2
    exact ⟨below_drewN HW2.out _, _, rfl⟩
theorem readsLaw_calls (hD : DecSaid) (hU : UnpSaid) (s : ByteArray) (hs : s.size ≤ 9223372036854775807) (w : World) :
    Calls Try.prog 6 #[.string s] w fun e w' => e = .returned (.bool true) ∧ Below w.heap.size w w' := by
  have hconv := fun wx => run_bytes_of_string (P := Try.prog) wx 9 22 5 s Try.underlying9 Try.underlying22 Try.underlying5
  have HD : Hid DecSaid := hD
  have HU : Hid UnpSaid := hU
  have HL : Hid (s.data.toList.length = s.size) := rfl
  clear hD hU
  go_enter Try.func6, Try.ntmps6
  go_wp2_with fail
  have h1 := opened_calls HD.out (some ⟨w.heap.size, 0, none⟩) s.data.toList (grownCap w s.size 0 5) _ (by rw [HL.out]; exact hs) (BytesAt.new s w (grownCap w s.size 0 5) ((bytesRow s (grownCap w s.size 0 5)).size, (bytesRow s (grownCap w s.size 0 5)).size + 1))
  rw [HL.out] at h1
  refine (Calls.mono h1 ?_)
  rintro e w1 ⟨hb1, v1, rfl⟩
  have HB1 : Hid (Below w.heap.size w w1) := (((Below.refl _ _).alloc (Nat.le_refl _) _).drew).trans (hb1.mono (by show w.heap.size ≤ (w.alloc _).heap.size; simp))
  clear h1 hb1
  go_wp2_with fail
  have h2 := unpacked_calls HU.out (some ⟨w1.heap.size, 0, none⟩) s.data.toList (grownCap w1 s.size 0 5) _ (by rw [HL.out]; exact hs) (BytesAt.new s w1 (grownCap w1 s.size 0 5) ((bytesRow s (grownCap w1 s.size 0 5)).size, (bytesRow s (grownCap w1 s.size 0 5)).size + 1))
  rw [HL.out] at h2
  refine (Calls.mono h2 ?_)
  rintro e w2 ⟨hb2, v2, rfl⟩
  have HB2 : Hid (Below w.heap.size w w2) := HB1.out.trans ((((Below.refl _ _).alloc (Nat.le_refl _) _).drew).trans (hb2.mono (by show w1.heap.size ≤ (w1.alloc _).heap.size; simp)) |>.mono HB1.out.size)
  clear h2 hb2
  go_wp2
  go_ret
  exact ⟨rfl, HB2.out⟩
end Go.Proofs.Ytnpnaglgllcpfaa
