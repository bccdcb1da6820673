/-
  The law Least, out of what Parse and Ways answer.
-/
import Derived.Test.YtnpnaglgllcpfabKr
import Derived.Test.YtnpnaglgllcpfabPEx
namespace Go.Proofs.Ytnpnaglgllcpfab
set_option maxRecDepth 100000
open Go.RowKit

set_option maxHeartbeats 1000000 in
theorem makes_calls (a b : Option Addr) (ts : List Tok) (p : List UInt8) (cap cb : Nat) (cost : Nat) (w : World) (hl : ts.length ≤ 9223372036854775807) (hp : p.length ≤ 64) (ht : ToksAt w a ts) (hb : BytesAt w b p) (hx : Tok.expand [] ts = some p) (hc : Tok.costs ts = cost) :
    Calls Try.prog 22 #[.slice a ts.length cap, .slice b p.length cb, .int .i64 cost] w fun e w' => Below w.heap.size w w' ∧ e = .returned (.bool true) := by
  have HT : Hid (ToksAt w a ts) := ht
  have HB : Hid (BytesAt w b p) := hb
  have HX : Hid (Tok.expand [] ts = some p) := hx
  have HC : Hid (Tok.costs ts = cost) := hc
  have htl : ts.length ≤ 64 := by have := Tok.expand_many ts [] p hx; simp at this; omega
  clear ht hb hx hc
  go_enter Try.func22, Try.ntmps22
  go_wp2_with fail
  refine (made_calls a ts p cap w hl HT.out HX.out).mono ?_
  rintro e w1 ⟨hb1, v, rfl, hown⟩
  have HB1 : Hid (Below w.heap.size w w1) := hb1
  have hs1 := hb1.size
  have k1 := conv_own hown
  have k2 := conv_bytes cb (bytesAt_below2 HB.out hb1)
  have k1' := fun n => conv_own (w := w1.drewN n) hown
  have k2' := fun n => conv_bytes (w := w1.drewN n) cb (bytesAt_below2 HB.out (below_drewN hb1 n))
  obtain ⟨ao, cp, rfl⟩ := hown.form
  clear hb1 hown
  go_wp2_with fail
  refine (price_calls a ts cap _ htl (HT.out.below HB1.out) (Tok.expand_all ts [] p HX.out)).mono ?_
  rintro e w2 ⟨rfl, hb2⟩
  have HB2 : Hid (Below w.heap.size w w2) := HB1.out.trans (hb2.mono hs1)
  rw [HC.out]
  clear hb2 k1 k2 k1' k2'
  go_wp2
  go_ret
  exact ⟨HB2.out, rfl⟩

theorem cap9_pos (n : Nat) (h : 1 ≤ n) : 1 ≤ cap9 (n : Int) := by unfold cap9; omega

set_option maxHeartbeats 2000000 in
theorem leastLaw_calls (f : List UInt8 → List Tok) (hf : Chosen f) (hP : ParseSaid f) (hW : WaysSaid) (s : ByteArray) (ra : Option Addr) (raw : List Int) (rc : Nat) (w : World) (hrl : raw.length ≤ 9223372036854775807) (hr : RawAt w ra raw) :
    Calls Try.prog 4 #[.string s, .slice ra raw.length rc] w fun e w' => e = .returned (.bool true) ∧ Below w.heap.size w w' := by
  have HF : Hid (Chosen f) := hf
  have HP : Hid (ParseSaid f) := hP
  have HW : Hid WaysSaid := hW
  have HR : Hid (RawAt w ra raw) := hr
  clear hf hP hW hr
  go_enter Try.func4, Try.ntmps4
  go_wp2_with fail
  refine (some_calls s 64 w (by omega)).mono ?_
  rintro e w1 ⟨hb1, c1, rfl, hc1, hby1⟩
  have HB1 : Hid (Below w.heap.size w w1) := hb1
  have hpl : (firstOf s 64).length ≤ 64 := by unfold firstOf; rw [List.length_take]; omega
  generalize firstOf s 64 = p at *
  have HBY1 : Hid (BytesAt w1 (some ⟨w.heap.size, 0, none⟩) p) := hby1
  obtain ⟨hbx, hbc⟩ := (bestB_iff p (f p)).1 (HF.out p hpl)
  have HBX : Hid (Tok.expand [] (f p) = some p) := hbx
  have HBC : Hid (Tok.costs (f p) = leastC p) := hbc
  clear hb1 hby1 hbx hbc
  go_wp2_with fail
  refine (HP.out _ p c1 w1 (by omega) HBY1.out).mono ?_
  rintro e w2 ⟨hb2, ⟨hlong, _⟩ | ⟨_, v, rfl, hrow⟩⟩
  · omega
  have HB2 : Hid (Below w.heap.size w w2) := HB1.out.trans (hb2.mono HB1.out.size)
  have HBY2 : Hid (BytesAt w2 (some ⟨w.heap.size, 0, none⟩) p) := bytesAt_below2 HBY1.out hb2
  have htm := own_max hrow
  obtain ⟨ta, tc, rfl⟩ := hrow.form
  have HTK2 : Hid (ToksAt w2 ta (f p)) := TokRow.toks hrow
  clear hb2 hrow
  go_wp2_with fail
  refine (HW.out _ p c1 w2 (by omega) HBY2.out).mono ?_
  rintro e w3 ⟨hb3, ⟨hlong, _⟩ | ⟨_, rfl⟩⟩
  · omega
  have HB3 : Hid (Below w.heap.size w w3) := HB2.out.trans (hb3.mono HB2.out.size)
  have HBY3 : Hid (BytesAt w3 (some ⟨w.heap.size, 0, none⟩) p) := bytesAt_below2 HBY2.out hb3
  have HTK3 : Hid (ToksAt w3 ta (f p)) := HTK2.out.below hb3
  have hu1 := cap9_pos (leastW p) (leastW_pos p)
  have hu2 := (cap9_range (leastW p)).2
  have hlc := leastC_le p
  have HLE : Hid (∀ ts, Tok.expand [] ts = some p → leastC p ≤ Tok.costs ts) := fun ts h => least_le p hpl ts h _ _ (least_is p)
  generalize hU : cap9 (leastW p : Int) = U at *
  generalize hLC : leastC p = C at *
  clear hb3 hU hLC
  go_wp2_with fail
  refine (rival_calls _ ra p raw c1 rc 0 w3 hpl HBY3.out (HR.out.below HB3.out) hrl (by omega)).mono ?_
  rintro e w4 ⟨hb4, v4, ts, rfl, hrow4, hex4⟩
  have HB4 : Hid (Below w.heap.size w w4) := HB3.out.trans (hb4.mono HB3.out.size)
  have HBY4 : Hid (BytesAt w4 (some ⟨w.heap.size, 0, none⟩) p) := bytesAt_below2 HBY3.out hb4
  have HTK4 : Hid (ToksAt w4 ta (f p)) := HTK3.out.below hb4
  have HEX4 : Hid (Tok.expand [] ts = some p) := hex4
  have hcc := HLE.out ts hex4
  have htl : ts.length ≤ 64 := by have := Tok.expand_many ts [] p hex4; simp at this; omega
  have hcs : Tok.costs ts ≤ 31 * ts.length := Tok.costs_le ts (Tok.expand_all ts [] p hex4)
  obtain ⟨sa, sc, rfl⟩ := hrow4.form
  have HTS4 : Hid (ToksAt w4 sa ts) := TokRow.toks hrow4
  clear hb4 hrow4 hex4
  go_wp2_with fail
  refine (pressCost_calls sa ts sc w4 (by omega) HTS4.out).mono ?_
  rintro e w5 ⟨hb5, ⟨hno, _⟩ | ⟨out, hex5, rfl⟩⟩
  · exact absurd (HEX4.out.symm.trans hno) (by simp)
  have HB5 : Hid (Below w.heap.size w w5) := HB4.out.trans (hb5.mono HB4.out.size)
  have HBY5 : Hid (BytesAt w5 (some ⟨w.heap.size, 0, none⟩) p) := bytesAt_below2 HBY4.out hb5
  have HTK5 : Hid (ToksAt w5 ta (f p)) := HTK4.out.below hb5
  have HTS5 : Hid (ToksAt w5 sa ts) := HTS4.out.below hb5
  clear hb5 hex5
  go_wp2_with fail
  refine (pressExpand_calls sa ts sc w5 (by omega) HTS5.out).mono ?_
  rintro e w6 ⟨hb6, ⟨hno, _⟩ | ⟨out6, v6, hex6, hol6, rfl, hown6⟩⟩
  · exact absurd (HEX4.out.symm.trans hno) (by simp)
  have hoo : out6 = p := by have := HEX4.out.symm.trans hex6; simpa using this.symm
  subst hoo
  have HB6 : Hid (Below w.heap.size w w6) := HB5.out.trans (hb6.mono HB5.out.size)
  have HBY6 : Hid (BytesAt w6 (some ⟨w.heap.size, 0, none⟩) out6) := bytesAt_below2 HBY5.out hb6
  have HTK6 : Hid (ToksAt w6 ta (f out6)) := HTK5.out.below hb6
  have HTS6 : Hid (ToksAt w6 sa ts) := HTS5.out.below hb6
  have k1 := conv_own hown6
  have k2 := conv_bytes c1 HBY6.out
  obtain ⟨oa, oc, rfl⟩ := hown6.form
  clear hb6 hex6 hown6
  go_wp2_with fail
  refine (price_calls sa ts sc _ htl HTS6.out (Tok.expand_all ts [] out6 HEX4.out)).mono ?_
  rintro e w7 ⟨rfl, hb7⟩
  have HB7 : Hid (Below w.heap.size w w7) := HB6.out.trans (hb7.mono HB6.out.size)
  have HBY7 : Hid (BytesAt w7 (some ⟨w.heap.size, 0, none⟩) out6) := bytesAt_below2 HBY6.out hb7
  have HTK7 : Hid (ToksAt w7 ta (f out6)) := HTK6.out.below hb7
  generalize hKc : Tok.costs ts = Kc at *
  clear hb7 k1 k2 hKc
  go_wp2_with fail
  refine (makes_calls ta _ (f out6) out6 tc c1 C _ htm hpl HTK7.out HBY7.out HBX.out HBC.out).mono ?_
  rintro e w8 ⟨hb8, rfl⟩
  have HB8 : Hid (Below w.heap.size w w8) := HB7.out.trans (hb8.mono HB7.out.size)
  clear hb8
  go_wp2
  go_ret
  exact ⟨by simp, HB8.out⟩
end Go.Proofs.Ytnpnaglgllcpfab
