/-
  The law's Decoder: every Feed, every End; a Decoder that is none.
-/
import Derived.Test.YtnpnaglgllcpfaaFd0
namespace Go.Proofs.Ytnpnaglgllcpfaa
set_option maxRecDepth 100000
open Go.RowKit

theorem lbox_ne {w : World} {cb q : Nat} {va : Value} {out c : Int} {b : Bool} {cs : Array Value} (h : LBox w cb q va out c b) (h1 : w.heap[q]? = some (.cells cs 95 (0, 0))) : cb ≠ q := by
  rintro rfl
  unfold LBox at h
  rw [h1] at h
  simp at h

set_option maxHeartbeats 1000000 in
theorem lfeed_long (cb q : Nat) (va v : Value) (all : List UInt8) (fs : List (List Tok × List UInt8)) (e : Int) (pa : Option Addr) (pn pc : Nat) (w : World) (F : List Nat) (hF : cb ∈ F ∧ q ∈ F) (hbox : LBox w cb q va (dataOf fs).length 0 false) (hdec : DecAt w q v all fs e) (hva : OwnB w 0 va all) (hl : 4096 < all.length + pn) (hpn : pn ≤ 140737488355328) :
    Calls Try.prog 30 #[.pointer (some ⟨cb, 0, none⟩), .slice pa pn pc] w fun r w' => LFeedAns w w' cb F r := by
  obtain ⟨⟨c0, c1, c2, c3, c4⟩, _⟩ := penta_cell hbox
  obtain ⟨ao, ac, rfl⟩ := hva.form
  have HF : Hid _ := feed_long_calls q v all fs e pa pn pc w hdec hl
  have hcb := block_lt hbox
  have hq := hdec.lt
  have hcq : cb ≠ q := by obtain ⟨st, rest, h1, _⟩ := hdec; exact lbox_ne hbox h1
  have hal : all.length ≤ 4096 := by obtain ⟨st, rest, _, _, _, _, _, _, h, _⟩ := hdec; exact h
  have HBOX : Hid _ := hbox
  have HFF : Hid _ := hF
  clear hbox hdec hva hF
  go_enter Try.func30, Try.ntmps30
  go_wp2_with fail
  refine Calls.mono HF.out ?_
  rintro r w1 ⟨rfl, hd1, hk1⟩
  have hbx1 : LBox w1 cb q (.slice ao all.length ac) (dataOf fs).length 0 false := (hk1.heap cb hcb hcq).trans HBOX.out
  obtain ⟨⟨c0, c1, c2, c3, c4⟩, f0, f1, f2, f3, f4⟩ := penta_cell hbx1
  have hlb : (4096 : Int) < (all.length : Int) + (pn : Int) := by omega
  have hs1 := hk1.size
  have hb2 := set_block (i := 3) hbx1 (.int .i64 1)
  have hd2 : DecBox (w1.setCell ⟨cb, 3, none⟩ (.int .i64 1)) q true 1 0 0 (.slice none 0 0) := by show _ = _; rw [set_other _ (Ne.symm hcq)]; exact hd1
  have HANS : Hid (∀ nd, LFeedAns w ((w1.setCell ⟨cb, 3, none⟩ (.int .i64 1)).drewN nd) cb F (.returned (.tuple #[.slice none 0 0, .bool true]))) := fun nd =>
    ⟨.slice none 0 0, [], [cb, q], rfl, World.ownsRow_nil _ _ _ _, ⟨q, _, _, 1, .inr (.inl ⟨hb2, hd2, by decide, rfl⟩)⟩, fun k hk => .inl (by simp at hk; rcases hk with rfl | rfl; exact HFF.out.1; exact HFF.out.2), fun k hk => by simp [Value.ownBlock] at hk, ((KeptBut.one hk1 HFF.out.2).set HFF.out.1 _).trans (KeptBut.below (below_drewN (Below.refl _ _) _))⟩
  clear hbx1 hk1 hd1 hb2 hd2 HF
  generalize (dataOf fs).length = dO at *
  go_wp2_with (first | (go_at_call 43; go_in) | fail)
  go_wp2
  go_ret2
  exact HANS.out 0
set_option maxHeartbeats 1000000 in
theorem lfeed_bad (cb q : Nat) (va : Value) (out c : Int) (pa : Option Addr) (pn pc : Nat) (w : World) (hbox : LBox w cb q va out c false) (hdec : DecBox w q true c 0 0 (.slice none 0 0)) (hc : c ≠ 0) :
    Calls Try.prog 30 #[.pointer (some ⟨cb, 0, none⟩), .slice pa pn pc] w fun r w' => LFeedAns w w' cb [cb, q] r := by
  have HANS : Hid (∀ n m, LFeedAns w ((w.drewN n).drewN m) cb [cb, q] (.returned (.tuple #[.slice none 0 0, .bool true]))) := fun n m =>
    ⟨.slice none 0 0, [], [cb, q], rfl, World.ownsRow_nil _ _ _ _, ⟨q, va, out, c, .inr (.inl ⟨hbox, hdec, hc, rfl⟩)⟩, fun k hk => .inl hk, fun k hk => by simp [Value.ownBlock] at hk, KeptBut.below (below_drewN (below_drewN (Below.refl _ _) _) _)⟩
  have HF : Hid _ := feed_bad_calls q c 0 0 (.slice none 0 0) pa pn pc w hdec hc
  obtain ⟨⟨c0, c1, c2, c3, c4⟩, _⟩ := penta_cell hbox
  have hcx : ∀ n, LBox (w.drewN n) cb q va out c false := fun n => hbox
  have hcb : (c != 0) = true := by simpa using hc
  clear hbox hdec hc
  go_enter Try.func30, Try.ntmps30
  go_wp2_with fail
  refine Calls.mono HF.out ?_
  rintro r w1 ⟨rfl, n, rfl⟩
  obtain ⟨⟨c0, c1, c2, c3, c4⟩, _⟩ := penta_cell (hcx n)
  have HAN2 : Hid _ := HANS.out n
  clear hcx HF HANS
  generalize w.drewN n = w1 at *
  go_wp2_with fail
  go_quiet ((go_at_call 43; exact Calls.quiet_of_same (num_calls _ _)))
  go_wp2
  go_ret2
  exact HAN2.out _
set_option maxHeartbeats 1000000 in
theorem lfeed_shut (cb q : Nat) (va : Value) (out c : Int) (pa : Option Addr) (pn pc : Nat) (w : World) (hbox : LBox w cb q va out c true) (hdec : DecBox w q false 0 0 0 (.slice none 0 0)) :
    Calls Try.prog 30 #[.pointer (some ⟨cb, 0, none⟩), .slice pa pn pc] w fun r w' => LFeedAns w w' cb [cb, q] r := by
  have HANS : Hid (∀ n, LFeedAns w (w.drewN n) cb [cb, q] (.returned (.tuple #[.slice none 0 0, .bool true]))) := fun n =>
    ⟨.slice none 0 0, [], [cb, q], rfl, World.ownsRow_nil _ _ _ _, ⟨q, va, out, c, .inr (.inr ⟨hbox, hdec, rfl⟩)⟩, fun k hk => .inl hk, fun k hk => by simp [Value.ownBlock] at hk, KeptBut.below (below_drewN (Below.refl _ _) _)⟩
  have HF : Hid _ := feed_shut_calls q 0 0 0 (.slice none 0 0) pa pn pc w hdec
  obtain ⟨⟨c0, c1, c2, c3, c4⟩, _⟩ := penta_cell hbox
  clear hbox hdec
  go_enter Try.func30, Try.ntmps30
  go_wp2_with fail
  refine Calls.mono HF.out ?_
  rintro r w1 ⟨rfl, rfl⟩
  clear HF
  go_wp2_with (first | (go_at_call 43; go_in) | fail)
  go_wp2
  go_ret2
  exact HANS.out 0
/-- Every Feed of the law's Decoder. -/
theorem lfeed_calls (cb : Nat) (F : List Nat) (p : List UInt8) (pa : Option Addr) (pc : Nat) (w : World) (h : LDec w cb F) (hp : BytesAt w pa p) (hpc : pa = none → p.length = 0 ∧ pc = 0) (hpl : p.length ≤ 140737488355328) (hpF : 0 < p.length → ∀ b off, pa = some ⟨b, off, none⟩ → b ∉ F) :
    Calls Try.prog 30 #[.pointer (some ⟨cb, 0, none⟩), .slice pa p.length pc] w fun r w' => LFeedAns w w' cb F r := by
  obtain ⟨q, va, out, c, ⟨all, fs, e, v, h1, h2, h3, h4, rfl⟩ | ⟨h1, h2, h3, rfl⟩ | ⟨h1, h2, rfl⟩⟩ := h
  · by_cases hl : all.length + p.length ≤ 4096
    · exact lfeed_live cb q va v all p fs e pa pc w h1 h2 h3 h4 hp hpc hpF hl
    · exact lfeed_long cb q va v all fs e pa p.length pc w _ (by simp) h1 h2 h3 (by omega) hpl
  · exact lfeed_bad cb q va out c pa p.length pc w h1 h2 h3
  · exact lfeed_shut cb q va out c pa p.length pc w h1 h2

/-- How the law's end ends. -/
def LEndAns (w w' : World) (cb : Nat) (F : List Nat) (r : Ending) : Prop :=
  ∃ F', r = .returned (.bool true) ∧ LDec w' cb F' ∧ (∀ k ∈ F', k ∈ F ∨ w.heap.size ≤ k) ∧ KeptBut w w' F
set_option maxHeartbeats 2000000 in
theorem lend_live (cb q : Nat) (va v : Value) (all : List UInt8) (fs : List (List Tok × List UInt8)) (e : Int) (w : World) (F : List Nat) (hF : cb ∈ F ∧ q ∈ F) (hbox : LBox w cb q va (dataOf fs).length 0 false) (hdec : DecAt w q v all fs e) (hva : OwnB w 0 va all) :
    Calls Try.prog 31 #[.pointer (some ⟨cb, 0, none⟩)] w fun r w' => LEndAns w w' cb F r := by
  obtain ⟨⟨c0, c1, c2, c3, c4⟩, _⟩ := penta_cell hbox
  obtain ⟨ao, ac, rfl⟩ := hva.form
  have HF : Hid _ := end_calls q v all fs e w hdec
  have hcb := block_lt hbox
  have hq := hdec.lt
  have hcq : cb ≠ q := by obtain ⟨st, rest, h1, _⟩ := hdec; exact lbox_ne hbox h1
  have hal : all.length ≤ 4096 := by obtain ⟨st, rest, _, _, _, _, _, _, h, _⟩ := hdec; exact h
  have HAQ : Hid ((Value.slice ao all.length ac).ownBlock ≠ some q) := by obtain ⟨st, rest, h1, _⟩ := hdec; exact cellOf_ne hva h1 (by decide)
  have HAC : Hid ((Value.slice ao all.length ac).ownBlock ≠ some cb) := cellOf_ne hva hbox (by decide)
  obtain ⟨ends, hread⟩ := hdec.told.read hal
  have HRD : Hid (rRead all = (e, psOf fs, dataOf fs, ends)) := hread
  have HBOX : Hid _ := hbox
  have HFF : Hid _ := hF
  have HVA : Hid (OwnB w 0 (.slice ao all.length ac) all) := hva
  clear hbox hdec hva hF hread
  go_enter Try.func31, Try.ntmps31
  go_wp2_with fail
  refine Calls.mono HF.out ?_
  rintro r w1 ⟨rfl, hd1, hk1⟩
  have hbx1 : LBox w1 cb q (.slice ao all.length ac) (dataOf fs).length 0 false := (hk1.heap cb hcb hcq).trans HBOX.out
  obtain ⟨⟨c0, c1, c2, c3, c4⟩, f0, f1, f2, f3, f4⟩ := penta_cell hbx1
  have hs1 := hk1.size
  have hb2 : LBox (w1.setCell ⟨cb, 4, none⟩ (.bool true)) cb q (.slice ao all.length ac) (dataOf fs).length 0 true := set_block (i := 4) hbx1 (.bool true)
  have hd2 : DecBox (w1.setCell ⟨cb, 4, none⟩ (.bool true)) q false 0 0 0 (.slice none 0 0) := by show _ = _; rw [set_other _ (Ne.symm hcq)]; exact hd1
  have hva2 : OwnB (w1.setCell ⟨cb, 4, none⟩ (.bool true)) 0 (.slice ao all.length ac) all := OwnB.set (World.ownsRow.kept HVA.out hk1.grown (by cases h : (Value.slice ao all.length ac).ownBlock with | none => exact .inl rfl | some k => exact .inr (fun e => HAQ.out (h.trans e)))) _ HAC.out
  have hk2 : KeptBut w (w1.setCell ⟨cb, 4, none⟩ (.bool true)) F := (KeptBut.one hk1 HFF.out.2).set HFF.out.1 _
  have HRC : Hid _ := read_calls ao all ac (w1.setCell ⟨cb, 4, none⟩ (.bool true)) (by omega) (OwnB.bytes hva2)
  have HB2 : Hid _ := hb2
  have HD2 : Hid _ := hd2
  have HK2 : Hid _ := hk2
  clear hbx1 hk1 hd1 HF hb2 hd2 hva2 hk2
  generalize (dataOf fs).length = dO at *
  go_wp2_with fail
  refine Calls.mono HRC.out ?_
  generalize hw2 : w1.setCell ⟨cb, 4, none⟩ (.bool true) = w2 at *
  have hs2 : w2.heap.size = w1.heap.size := by rw [← hw2]; exact set_size _ _ _
  rintro r w3 ⟨hb3, rfl, L, n, vP, vD, vE, ht3, hl3⟩
  rw [HRD.out] at ht3
  obtain ⟨⟨_, _, t2⟩, _⟩ := ht3.cell
  have hs3 := hb3.size
  have HANS : Hid (∀ nd, LEndAns w (w3.drewN nd) cb F (.returned (.bool true))) := fun nd =>
    ⟨[cb, q], rfl, ⟨q, _, _, 0, .inr (.inr ⟨(hb3.block cb (by omega)).trans HB2.out, (hb3.block q (by omega)).trans HD2.out, rfl⟩)⟩, fun k hk => .inl (by simp at hk; rcases hk with rfl | rfl; exact HFF.out.1; exact HFF.out.2), (HK2.out.trans (KeptBut.below hb3)).trans (KeptBut.below (below_drewN (Below.refl _ _) _))⟩
  have hqt : w2.heap.size < w3.heap.size := ht3.lt
  clear hs2 hw2 hb3 ht3 hl3 HRC
  go_wp2_with fail
  go_quiet ((go_at_call 43; exact Calls.quiet_of_same (num_calls _ _)))
  go_wp2
  go_ret
  exact HANS.out _
set_option maxHeartbeats 1000000 in
theorem lend_bad (cb q : Nat) (va : Value) (out c : Int) (w : World) (hbox : LBox w cb q va out c false) (hdec : DecBox w q true c 0 0 (.slice none 0 0)) (hc : c ≠ 0) :
    Calls Try.prog 31 #[.pointer (some ⟨cb, 0, none⟩)] w fun r w' => LEndAns w w' cb [cb, q] r := by
  have HF : Hid _ := end_bad_calls q c 0 0 none 0 0 w hdec hc
  have hcb := block_lt hbox
  have hcq : cb ≠ q := lbox_ne hbox hdec
  obtain ⟨⟨c0, c1, c2, c3, c4⟩, _⟩ := penta_cell hbox
  have hcc : (c != 0) = true := by simpa using hc
  have HBOX : Hid _ := hbox
  clear hbox hdec hc
  go_enter Try.func31, Try.ntmps31
  go_wp2_with fail
  refine Calls.mono HF.out ?_
  rintro r w1 ⟨rfl, hd1, hk1⟩
  have hbx1 : LBox w1 cb q va out c false := (hk1.heap cb hcb hcq).trans HBOX.out
  obtain ⟨⟨c0, c1, c2, c3, c4⟩, f0, f1, f2, f3, f4⟩ := penta_cell hbx1
  have hs1 := hk1.size
  have HANS : Hid (∀ nd, LEndAns w ((w1.setCell ⟨cb, 4, none⟩ (.bool true)).drewN nd) cb [cb, q] (.returned (.bool true))) := fun nd =>
    ⟨[cb, q], rfl, ⟨q, va, out, c, .inr (.inr ⟨set_block (i := 4) hbx1 (.bool true), by show _ = _; rw [show ((w1.setCell ⟨cb, 4, none⟩ (.bool true)).drewN nd).heap = (w1.setCell ⟨cb, 4, none⟩ (.bool true)).heap from rfl, set_other _ (Ne.symm hcq)]; exact hd1, rfl⟩)⟩, fun k hk => .inl hk, ((KeptBut.one hk1 (by simp)).set (by simp) _).trans (KeptBut.below (below_drewN (Below.refl _ _) _))⟩
  clear hbx1 hk1 hd1 HF
  go_wp2_with fail
  go_quiet ((go_at_call 43; exact Calls.quiet_of_same (num_calls _ _)))
  go_wp2
  go_ret
  exact HANS.out _
set_option maxHeartbeats 1000000 in
theorem lend_shut (cb q : Nat) (va : Value) (out c : Int) (w : World) (hbox : LBox w cb q va out c true) (hdec : DecBox w q false 0 0 0 (.slice none 0 0)) :
    Calls Try.prog 31 #[.pointer (some ⟨cb, 0, none⟩)] w fun r w' => LEndAns w w' cb [cb, q] r := by
  have HANS : Hid (∀ n, LEndAns w (w.drewN n) cb [cb, q] (.returned (.bool true))) := fun n =>
    ⟨[cb, q], rfl, ⟨q, va, out, c, .inr (.inr ⟨hbox, hdec, rfl⟩)⟩, fun k hk => .inl hk, KeptBut.below (below_drewN (Below.refl _ _) _)⟩
  have HF : Hid _ := end_shut_calls q 0 0 0 (.slice none 0 0) w hdec
  obtain ⟨⟨c0, c1, c2, c3, c4⟩, _⟩ := penta_cell hbox
  clear hbox hdec
  go_enter Try.func31, Try.ntmps31
  go_wp2_with fail
  refine Calls.mono HF.out ?_
  rintro r w1 ⟨rfl, rfl⟩
  clear HF
  go_wp2_with (first | (go_at_call 43; go_in) | fail)
  go_wp2
  go_ret
  exact HANS.out 0
/-- Every End of the law's Decoder. -/
theorem lend_calls (cb : Nat) (F : List Nat) (w : World) (h : LDec w cb F) :
    Calls Try.prog 31 #[.pointer (some ⟨cb, 0, none⟩)] w fun r w' => LEndAns w w' cb F r := by
  obtain ⟨q, va, out, c, ⟨all, fs, e, v, h1, h2, h3, h4, rfl⟩ | ⟨h1, h2, h3, rfl⟩ | ⟨h1, h2, rfl⟩⟩ := h
  · exact lend_live cb q va v all fs e w _ (by simp) h1 h2 h3
  · exact lend_bad cb q va out c w h1 h2 h3
  · exact lend_shut cb q va out c w h1 h2
end Go.Proofs.Ytnpnaglgllcpfaa
