/-
  presskeep.refused: bytes that are no stream: Decompress, Unpack and a Decoder.
-/
import Derived.Test.YtnpnaglgllcpfabCt0
import Derived.Test.YtnpnaglgllcpfabDcr3
import Derived.Test.YtnpnaglgllcpfabDec
import Derived.BigQuiet
namespace Go.Proofs.Ytnpnaglgllcpfab
set_option maxRecDepth 100000
open Go.RowKit

set_option maxHeartbeats 4000000 in
theorem refused_calls (sa da : Option Addr) (l dd D : List UInt8) (sc dc : Nat) (want : Int) (ps : List (List Tok)) (ends : List Nat) (w : World) (hl : l.length ≤ 4096) (hby : BytesAt w sa l) (hsn : sa = none → l.length = 0 ∧ sc = 0) (hrd : rRead l = (want, ps, D, ends)) (hw : want ≠ 0)
    (hD1 : D.length ≤ dd.length) (hD2 : D = dd.take D.length) (hD3 : D.length % 64 = 0 ∨ D.length = dd.length) (hdd : BytesAt w da dd) (hdc : dd.length ≤ dc) (hdn : da = none → dd.length = 0 ∧ dc = 0) (hdl : dd.length ≤ 100000) :
    Calls Try.prog 28 #[.slice sa l.length sc, .int .i64 want, .slice da dd.length dc] w fun e w' => e = .returned (.bool true) ∧ Below w.heap.size w w' := by
  have HBY : Hid (BytesAt w sa l) := hby
  have HDD : Hid (BytesAt w da dd) := hdd
  have HRD : Hid (rRead l = (want, ps, D, ends)) := hrd
  have HSN : Hid _ := hsn
  have HD2 : Hid _ := hD2
  have HW : Hid (want ≠ 0) := hw
  clear hby hdd hrd hsn hD2 hw
  go_enter Try.func28, Try.ntmps28
  go_wp2_with fail
  refine (dec_said sa l sc w (by omega) HBY.out).mono ?_
  rintro e w1 ⟨hb1, v1, out1, rfl, hown1, _, hbad1⟩
  rw [HRD.out] at hbad1 ⊢
  obtain rfl : out1 = [] := hbad1 HW.out
  obtain ⟨o1, c1, rfl⟩ := hown1.form
  have HB1 : Hid (Below w.heap.size w w1) := hb1
  clear hb1 hown1 hbad1
  go_wp2_with fail
  refine (unp_said sa l sc w1 (by omega) (bytesAt_below HBY.out HB1.out)).mono ?_
  rintro e w2 ⟨hb2, pa, ps2, pc, rfl, _, _, _, hbad2⟩
  rw [HRD.out] at hbad2 ⊢
  obtain rfl : ps2 = [] := hbad2 HW.out
  have HB2 : Hid (Below w.heap.size w w2) := HB1.out.trans (hb2.mono HB1.out.size)
  clear hb2 hbad2
  go_wp2_with fail
  refine (newDecoder_calls w2).mono ?_
  rintro r w3 ⟨rfl, hb3, hs3, hd3⟩
  have hs2 := HB2.out.size
  have HB3 : Hid (Below w.heap.size w w3) := HB2.out.trans (hb3.mono hs2)
  have HBY3 : Hid (BytesAt w3 sa l) := bytesAt_below HBY.out HB3.out
  have HFC : Hid _ := feed_calls w2.heap.size (.slice none 0 0) [] l [] 4 sa sc w3 (DecAt.new hd3) HBY3.out HSN.out (by simpa using hl)
  clear hb3 hd3
  generalize hq : w2.heap.size = q at *
  have HQ : Hid _ := hq
  clear hq
  go_wp2_with fail
  refine Calls.mono HFC.out ?_
  rintro r w4 ⟨hk4, fs, e4, vy, ht4, hy4, hcase⟩
  rw [List.nil_append] at ht4 hcase
  rw [List.nil_append] at ht4
  have hsame : e4 = want ∧ dataOf fs = D := by
    obtain ⟨en, hr⟩ := ht4.read hl
    rw [HRD.out] at hr
    simp at hr
    exact ⟨hr.1.symm, hr.2.2.1.symm⟩
  obtain ⟨rfl, hfd⟩ := hsame
  rw [hfd] at hy4
  obtain ⟨yo, yc, rfl⟩ := hy4.form
  have hs4 := hk4.size
  have HB4 : Hid (Below w.heap.size w w4) := HB3.out.trans ⟨hk4.os, hk4.tape, hk4.output, hk4.size, fun k hk => hk4.heap k (by omega) (by omega)⟩
  have HY4 : Hid (OwnB w4 w3.heap.size (.slice yo D.length yc) D) := hy4
  have k1 := conv_own HY4.out
  have k1' := conv_drew HY4.out
  have hdt : BytesAt w4 da (dd.take D.length) := by
    rcases bytesAt_below HDD.out HB4.out with h | ⟨b, off, h1, h2⟩
    · exact .inl (by rw [h]; simp)
    · have := BytesAt.part h2 0 D.length
      rw [List.drop_zero, Nat.add_zero] at this
      rw [h1]; exact this
  have k2 : (convert 22 9 (.slice da D.length dc)).run Try.prog w4 = .ok (.string ⟨D.toArray⟩) w4 := by
    have := conv_bytes dc hdt
    rw [List.length_take, Nat.min_eq_left hD1] at this
    rw [this, ← HD2.out]
  have k2' : ∀ n, (convert 22 9 (.slice da D.length dc)).run Try.prog (w4.drewN n) = .ok (.string ⟨D.toArray⟩) (w4.drewN n) := fun n => by
    have hdt' : BytesAt (w4.drewN n) da (dd.take D.length) := hdt
    have := conv_bytes dc hdt'
    rw [List.length_take, Nat.min_eq_left hD1] at this
    rw [this, ← HD2.out]
  have hb1 : ¬ (dd.length : Int) < (D.length : Int) := by omega
  have hb2 : (0 : Int) ≤ (D.length : Int) ∧ (D.length : Int) ≤ (dc : Int) := by omega
  clear hdt HFC hk4 hy4
  have htm : (D.length : Int).tmod 64 = (D.length : Int) % 64 := Int.tmod_eq_emod_of_nonneg (by omega)
  have hmod : (((D.length : Int) % 64 != 0) = false ∧ ((D.length : Int).tmod 64 != 0) = false) ∨ (((D.length : Int) % 64 != 0) = true ∧ ((D.length : Int).tmod 64 != 0) = true ∧ ((D.length : Int) != (dd.length : Int)) = false) := by
    rw [htm]
    by_cases h : D.length % 64 = 0
    · left; exact ⟨by simp; omega, by simp; omega⟩
    · right; exact ⟨by simp; omega, by simp; omega, by simp; omega⟩
  clear htm
  have hda : (da = none ∧ D = [] ∧ dd = [] ∧ dc = 0) ∨ ∃ ad, da = some ad := by
    rcases da with _ | ad
    · left; have := hdn rfl; exact ⟨rfl, List.eq_nil_of_length_eq_zero (by omega), List.eq_nil_of_length_eq_zero this.1, this.2⟩
    · exact .inr ⟨ad, rfl⟩
  have hb1d : decide ((dd.length : Int) < (D.length : Int)) = false := decide_eq_false hb1
  clear hD3 hdn
  rcases hcase with ⟨he, hr, v', hdec, _⟩ | ⟨h0, h4, hr, hbox⟩
  · have h4 : e4 = 4 := by have := HW.out; omega
    subst h4
    subst hr
    have HF2 : Hid (∀ n, Calls Try.prog 48 #[.pointer (some ⟨q, 0, none⟩), .slice none 0 0] (w4.drewN n) fun r w' => ∃ vo' vc', r = .returned (.tuple #[.slice vo' 0 vc', .int .i64 0]) ∧ OneKept (w4.drewN n) w' q ∧ ∃ v2 fs2, DecAt w' q v2 l fs2 4) := fun n => by
      refine (feed_calls q v' l [] fs 4 none 0 (w4.drewN n) hdec (.inl rfl) (fun _ => ⟨rfl, rfl⟩) (by simpa using hl)).mono ?_
      rintro r w5 ⟨hk5, fs2, e5, vz, ht5, hz5, hc5⟩
      rw [List.append_nil] at ht5 hc5
      obtain ⟨en, hr5⟩ := ht5.read hl
      rw [HRD.out] at hr5
      simp at hr5
      obtain ⟨he5, _, hd5, _⟩ := hr5
      have hd0 : dataOf fs2 = [] := by
        have h1 : dataOf (fs ++ fs2) = dataOf fs ++ dataOf fs2 := by simp [dataOf]
        have h2 : dataOf (fs ++ fs2) = D := by simpa [dataOf] using hd5.symm
        rw [h2, hfd] at h1
        have := congrArg List.length h1
        rw [List.length_append] at this
        exact List.eq_nil_of_length_eq_zero (by omega)
      rw [hd0] at hz5
      obtain ⟨zo, zc, rfl⟩ := hz5.form
      rcases hc5 with ⟨_, rfl, v2, hdec2, _⟩ | ⟨_, hne4, _⟩
      · exact ⟨zo, zc, rfl, hk5, v2, fs ++ fs2, by rw [he5]; exact hdec2⟩
      · exact absurd he5.symm hne4
    clear hdec hfd ht4
    rcases hmod with ⟨hm, hm3⟩ | ⟨hm, hm3, hm2⟩
    all_goals
      rcases hda with ⟨rfl, rfl, rfl, rfl⟩ | ⟨ad, rfl⟩
      all_goals
        try simp only [List.length_nil] at k1 k1' k2 k2'
        go_wp2_with fail
        go_quiet (fail)
        go_wp2_with fail
        refine Calls.mono (HF2.out _) ?_
        rintro r w5 ⟨vo', vc', rfl, hk5, v2, fs2, hdec2⟩
        have hs5 : w4.heap.size ≤ w5.heap.size := hk5.size
        have HB5 : Hid (Below w.heap.size w w5) := (below_drewN HB4.out _).trans ⟨hk5.os, hk5.tape, hk5.output, hk5.size, fun k hk => hk5.heap k (by show k < w4.heap.size; omega) (by omega)⟩
        have HDC : Hid (DecAt w5 q v2 l fs2 4) := hdec2
        clear hk5 hdec2
        go_wp2_with fail
        refine (end_calls q v2 l fs2 4 w5 HDC.out).mono ?_
        rintro r w6 ⟨rfl, _, hk6⟩
        have HB6 : Hid (Below w.heap.size w w6) := HB5.out.trans ⟨hk6.os, hk6.tape, hk6.output, hk6.size, fun k hk => hk6.heap k (by omega) (by omega)⟩
        clear hk6
        go_wp2
        go_ret
        exact ⟨rfl, HB6.out⟩
  · subst hr
    have HF2 : Hid (∀ n, Calls Try.prog 48 #[.pointer (some ⟨q, 0, none⟩), .slice none 0 0] (w4.drewN n) fun r w' => r = .returned (.tuple #[.slice none 0 0, .int .i64 e4]) ∧ ∃ m, w' = w4.drewN m) := fun n => by
      refine (feed_bad_calls q e4 0 0 (.slice none 0 0) none 0 0 (w4.drewN n) hbox h0).mono ?_
      rintro r w' ⟨rfl, m, rfl⟩
      exact ⟨rfl, n + m, by simp [World.drewN, Nat.add_assoc]⟩
    have HEB : Hid (∀ n, Calls Try.prog 49 #[.pointer (some ⟨q, 0, none⟩)] (w4.drewN n) fun r w' => r = .returned (.int .i64 e4) ∧ OneKept (w4.drewN n) w' q) := fun n => by
      refine (end_bad_calls q e4 0 0 none 0 0 (w4.drewN n) hbox h0).mono ?_
      rintro r w' ⟨rfl, _, h⟩
      exact ⟨rfl, h⟩
    have h4b : (e4 == 4) = false := by simpa using h4
    clear hbox hfd ht4 h0 h4
    rcases hmod with ⟨hm, hm3⟩ | ⟨hm, hm3, hm2⟩
    all_goals
      rcases hda with ⟨rfl, rfl, rfl, rfl⟩ | ⟨ad, rfl⟩
      all_goals
        try simp only [List.length_nil] at k1 k1' k2 k2'
        go_wp2_with fail
        go_quiet (fail)
        go_wp2_with fail
        refine Calls.mono (HF2.out _) ?_
        rintro r w5 ⟨rfl, n5, rfl⟩
        go_wp2_with fail
        refine (HEB.out n5).mono ?_
        rintro r w6 ⟨rfl, hk6⟩
        have HB6 : Hid (Below w.heap.size w w6) := (below_drewN HB4.out n5).trans ⟨hk6.os, hk6.tape, hk6.output, hk6.size, fun k hk => hk6.heap k (by show k < w4.heap.size; omega) (by omega)⟩
        clear hk6
        go_wp2
        go_ret
        exact ⟨rfl, HB6.out⟩
end Go.Proofs.Ytnpnaglgllcpfab
