/-
  The law Ordered, out of what Ways and Nth answer.
-/
import Derived.Test.YtnpnaglgllcpfabOrd1
import Derived.Test.YtnpnaglgllcpfabLeast0
namespace Go.Proofs.Ytnpnaglgllcpfab
set_option maxRecDepth 100000
open Go.RowKit

set_option maxHeartbeats 2000000 in
theorem orderedLaw_calls (f : List UInt8 → Int → List Tok) (hN : NthSaid f) (hW : WaysSaid) (s : ByteArray) (k j : Int) (hk : In64 k) (hj : In64 j) (w : World) :
    Calls Try.prog 6 #[.string s, .int .i64 k, .int .i64 j] w fun e w' => e = .returned (.bool true) ∧ Below w.heap.size w w' := by
  have HN : Hid (NthSaid f) := hN
  have HW : Hid WaysSaid := hW
  have HK : Hid (In64 k) := hk
  have HJ : Hid (In64 j) := hj
  clear hN hW hk hj
  go_enter Try.func6, Try.ntmps6
  go_wp2_with fail
  refine (some_calls s 64 w (by omega)).mono ?_
  rintro e w1 ⟨hb1, c1, rfl, hc1, hby1⟩
  have HB1 : Hid (Below w.heap.size w w1) := hb1
  have hpl : (firstOf s 64).length ≤ 64 := by unfold firstOf; rw [List.length_take]; omega
  generalize firstOf s 64 = p at *
  have HBY1 : Hid (BytesAt w1 (some ⟨w.heap.size, 0, none⟩) p) := hby1
  clear hb1 hby1
  go_wp2_with fail
  refine (HW.out _ p c1 w1 (by omega) HBY1.out).mono ?_
  rintro e w2 ⟨hb2, ⟨hlong, _⟩ | ⟨_, rfl⟩⟩
  · omega
  have HB2 : Hid (Below w.heap.size w w2) := HB1.out.trans (hb2.mono HB1.out.size)
  have HBY2 : Hid (BytesAt w2 (some ⟨w.heap.size, 0, none⟩) p) := bytesAt_below2 HBY1.out hb2
  have hu1 := cap9_pos (leastW p) (leastW_pos p)
  have hu2 := (cap9_range (leastW p)).2
  have hlc := leastC_le p
  have HNK : Hid (∀ ts (q c : Int), NumOk p q ts c → (q < 0 ∨ cap9 (leastW p) ≤ q) → c = 11 ∧ ts = []) := fun ts q c h hq => by
    rcases h with ⟨h, _⟩ | ⟨_, _, h1, h2⟩ | ⟨_, h0, h1, _⟩
    · omega
    · exact ⟨h1, h2⟩
    · omega
  have HNO : Hid (∀ ts (q c : Int), NumOk p q ts c → 0 ≤ q → q < cap9 (leastW p) → c = 0 ∧ bestB p ts = true ∧ (rankN p ts : Int) = q) := fun ts q c h h0 hq => by
    rcases h with ⟨h, _⟩ | ⟨_, h1, _⟩ | ⟨_, _, _, h1, h2, h3⟩
    · omega
    · omega
    · exact ⟨h1, h2, h3⟩
  have HBI : Hid (∀ ts, bestB p ts = true → Tok.expand [] ts = some p ∧ Tok.costs ts = leastC p) := fun ts h => (bestB_iff p ts).1 h
  have HOR : Hid (∀ a b, bestB p a = true → bestB p b = true → rankN p a < rankN p b → beforeL a b = true) := order_is p hpl
  generalize hU : cap9 (leastW p : Int) = U at *
  obtain ⟨V, rfl⟩ := Int.eq_ofNat_of_zero_le (show 0 ≤ U by omega)
  generalize hLC : leastC p = C at *
  clear hb2 hU hLC
  go_wp2_with fail
  refine (HN.out _ p c1 (-1) w2 (by omega) HBY2.out).mono ?_
  rintro e w3 ⟨hb3, v3, ts3, e3, rfl, hrow3, hok3, _⟩
  obtain ⟨rfl, rfl⟩ := HNK.out _ _ _ hok3 (.inl (by omega))
  obtain ⟨a3, q3, rfl⟩ := hrow3.form
  have HB3 : Hid (Below w.heap.size w w3) := HB2.out.trans (hb3.mono HB2.out.size)
  have HBY3 : Hid (BytesAt w3 (some ⟨w.heap.size, 0, none⟩) p) := bytesAt_below2 HBY2.out hb3
  clear hb3 hrow3 hok3
  go_wp2_with fail
  refine (HN.out _ p c1 V w3 (by omega) HBY3.out).mono ?_
  rintro e w4 ⟨hb4, v4, ts4, e4, rfl, hrow4, hok4, _⟩
  obtain ⟨rfl, rfl⟩ := HNK.out _ _ _ hok4 (.inr (by omega))
  obtain ⟨a4, q4, rfl⟩ := hrow4.form
  have HB4 : Hid (Below w.heap.size w w4) := HB3.out.trans (hb4.mono HB3.out.size)
  have HBY4 : Hid (BytesAt w4 (some ⟨w.heap.size, 0, none⟩) p) := bytesAt_below2 HBY3.out hb4
  clear hb4 hrow4 hok4
  go_wp2_with fail
  refine (pick_calls k _ _ HK.out (by omega) (by omega)).mono ?_
  rintro e w5 ⟨⟨lo, hlo0, hlo1, rfl⟩, rfl⟩
  obtain ⟨lo, rfl⟩ := Int.eq_ofNat_of_zero_le hlo0
  go_wp2_with fail
  refine (pick_calls j _ _ HJ.out (by omega) (by omega)).mono ?_
  rintro e w6 ⟨⟨d, hd0, hd1, rfl⟩, rfl⟩
  obtain ⟨d, rfl⟩ := Int.eq_ofNat_of_zero_le hd0
  go_wp2_with fail
  refine (HN.out _ p c1 lo _ (by omega) HBY4.out).mono ?_
  rintro e w5 ⟨hb5, v5, ts5, e5, rfl, hrow5, hok5, hf5⟩
  obtain ⟨rfl, hbs5, hrk5⟩ := HNO.out _ _ _ hok5 (by omega) (by omega)
  have HF5 : Hid (ts5 = f p lo) := hf5 rfl
  have HBS5 : Hid _ := hbs5
  have htm5 := own_max hrow5
  obtain ⟨a5, q5, rfl⟩ := hrow5.form
  have HTK5 : Hid (ToksAt w5 a5 ts5) := TokRow.toks hrow5
  have HB5 : Hid (Below w.heap.size w w5) := HB4.out.trans (hb5.mono HB4.out.size)
  have HBY5 : Hid (BytesAt w5 (some ⟨w.heap.size, 0, none⟩) p) := bytesAt_below2 HBY4.out hb5
  clear hb5 hrow5 hok5 hf5 hbs5
  obtain ⟨hi, hhi⟩ : ∃ hi : Nat, hi = lo + d := ⟨_, rfl⟩
  have HHI : Hid ((lo : Int) + (d : Int) = (hi : Int)) := by show _ = _; omega
  have hhV : (hi : Int) < (V : Int) := by omega
  have hlh : lo ≤ hi := by omega
  clear hhi hd0 hd1
  go_wp2_with fail
  rw [HHI.out]
  clear HHI
  refine (HN.out _ p c1 hi _ (by omega) HBY5.out).mono ?_
  rintro e w6 ⟨hb6, v6, ts6, e6, rfl, hrow6, hok6, hf6⟩
  obtain ⟨rfl, hbs6, hrk6⟩ := HNO.out _ _ _ hok6 (by omega) (by omega)
  have HF6 : Hid (ts6 = f p hi) := hf6 rfl
  have HBS6 : Hid _ := hbs6
  have HRK5 : Hid _ := hrk5
  have HRK6 : Hid _ := hrk6
  have htm6 := own_max hrow6
  obtain ⟨a6, q6, rfl⟩ := hrow6.form
  have HTK6 : Hid (ToksAt w6 a6 ts6) := TokRow.toks hrow6
  have HTA6 : Hid (ToksAt w6 a5 ts5) := HTK5.out.below hb6
  have HB6 : Hid (Below w.heap.size w w6) := HB5.out.trans (hb6.mono HB5.out.size)
  have HBY6 : Hid (BytesAt w6 (some ⟨w.heap.size, 0, none⟩) p) := bytesAt_below2 HBY5.out hb6
  clear hb6 hrow6 hok6 hf6 hbs6 hrk5 hrk6
  go_wp2_with fail
  refine (makes_calls a5 _ ts5 p q5 c1 C _ htm5 hpl HTA6.out HBY6.out (HBI.out _ HBS5.out).1 (HBI.out _ HBS5.out).2).mono ?_
  rintro e w7 ⟨hb7, rfl⟩
  have HTK7 : Hid (ToksAt w7 a6 ts6) := HTK6.out.below hb7
  have HTA7 : Hid (ToksAt w7 a5 ts5) := HTA6.out.below hb7
  have HB7 : Hid (Below w.heap.size w w7) := HB6.out.trans (hb7.mono HB6.out.size)
  have HBY7 : Hid (BytesAt w7 (some ⟨w.heap.size, 0, none⟩) p) := bytesAt_below2 HBY6.out hb7
  clear hb7
  go_wp2_with fail
  refine (makes_calls a6 _ ts6 p q6 c1 C _ htm6 hpl HTK7.out HBY7.out (HBI.out _ HBS6.out).1 (HBI.out _ HBS6.out).2).mono ?_
  rintro e w8 ⟨hb8, rfl⟩
  have HTK8 : Hid (ToksAt w8 a6 ts6) := HTK7.out.below hb8
  have HTA8 : Hid (ToksAt w8 a5 ts5) := HTA7.out.below hb8
  have HB8 : Hid (Below w.heap.size w w8) := HB7.out.trans (hb8.mono HB7.out.size)
  clear hb8
  by_cases heq : lo = hi
  · subst heq
    have hts : ts6 = ts5 := HF6.out.trans HF5.out.symm
    subst hts
    have hee : ((lo : Int) == (lo : Int)) = true := by simp
    go_wp2_with fail
    refine (same_calls a5 a6 ts6 q5 q6 _ htm5 HTA8.out HTK8.out).mono ?_
    rintro e w9 ⟨rfl, nd, rfl⟩
    go_wp2
    go_ret
    exact ⟨rfl, below_drewN HB8.out _⟩
  · have hee : ((lo : Int) == (hi : Int)) = false := by simp; omega
    have HLT : Hid (beforeL ts5 ts6 = true) := HOR.out _ _ HBS5.out HBS6.out (by have h1 := HRK5.out; have h2 := HRK6.out; omega)
    go_wp2_with fail
    refine (kbefore_calls a5 a6 ts5 ts6 q5 q6 _ htm5 htm6 HTA8.out HTK8.out HLT.out).mono ?_
    rintro e w9 ⟨hb9, rfl⟩
    have HB9 : Hid (Below w.heap.size w w9) := HB8.out.trans (hb9.mono HB8.out.size)
    clear hb9
    go_wp2
    go_ret
    exact ⟨rfl, HB9.out⟩
end Go.Proofs.Ytnpnaglgllcpfab
