/-
  Lemmas for the law All: Dcr2, Dcr3, Apb, SumR, MkN.
-/
import Derived.Test.YtnpnaglgllcpfaaGreatM09
import Derived.Test.YtnpnaglgllcpfaaGreatM02
import Derived.Test.YtnpnaglgllcpfaaGreatM01
/- What the program's Decoder answers: Feed. -/
namespace Go.Proofs.YtnpnaglgllcpfaaGreat
set_option maxRecDepth 100000
open Go.RowKit

/-- What is read of some bytes: the frames, how it stops. -/
def Told (l : List UInt8) (fs : List (List Tok × List UInt8)) (e : Int) : Prop := ∃ st R, Runs 0 (bitsIn l) fs st R ∧ Stops st R e
theorem Told.read {l : List UInt8} {fs : List (List Tok × List UInt8)} {e : Int} (h : Told l fs e) (hl : l.length ≤ 4096) : ∃ ends, rRead l = (e, psOf fs, dataOf fs, ends) := by
  obtain ⟨st, R, h1, h2⟩ := h
  exact h1.read h2 hl
/-- The Decoder in block q took the bytes all, gave the frames fs; so it would stop; its rest is the slice v. -/
def DecAt (w : World) (q : Nat) (v : Value) (all : List UInt8) (fs : List (List Tok × List UInt8)) (e : Int) : Prop :=
  ∃ (st : Nat) (rest : List UInt8), DecBox w q true 0 all.length st v ∧ OwnB w 0 v rest ∧ Runs 0 (bitsIn all) fs st (bitsIn rest) ∧ Stops st (bitsIn rest) e ∧ (e = 0 ∨ e = 4) ∧ st ≤ 3 ∧ all.length ≤ 4096 ∧ rest.length ≤ all.length
theorem DecAt.told {w : World} {q : Nat} {v : Value} {all : List UInt8} {fs : List (List Tok × List UInt8)} {e : Int} (h : DecAt w q v all fs e) : Told all fs e := by
  obtain ⟨st, rest, _, _, h1, h2, _⟩ := h
  exact ⟨st, _, h1, h2⟩
theorem DecAt.lt {w : World} {q : Nat} {v : Value} {all : List UInt8} {fs : List (List Tok × List UInt8)} {e : Int} (h : DecAt w q v all fs e) : q < w.heap.size := by
  obtain ⟨st, rest, h1, _⟩ := h
  exact (Array.getElem?_eq_some_iff.1 h1).1
theorem DecAt.new {w : World} {q : Nat} (h : DecBox w q true 0 0 0 (.slice none 0 0)) : DecAt w q (.slice none 0 0) [] [] 4 :=
  ⟨0, [], h, World.ownsRow_nil _ _ _ _, Runs.stay _ _, .inr ⟨by decide, by simp [part, rMagic, bitsIn]⟩, .inr rfl, by omega, by simp, by simp⟩
/-- The Decoder is as it was where its block and its rest's are. -/
theorem DecAt.kept {w w' : World} {q : Nat} {v : Value} {all : List UInt8} {fs : List (List Tok × List UInt8)} {e : Int} {row : Option Nat} (h : DecAt w q v all fs e) (hg : w.grownBy w' row) (hq : row ≠ some q) (hv : v.ownBlock = none ∨ v.ownBlock ≠ row) : DecAt w' q v all fs e := by
  obtain ⟨st, rest, h1, h2, r⟩ := h
  refine ⟨st, rest, ?_, World.ownsRow.kept h2 hg hv, r⟩
  show w'.heap[q]? = _
  rw [hg.block q (Array.getElem?_eq_some_iff.1 h1).1 (fun e => hq e.symm)]; exact h1
theorem bitsIn_drop : ∀ (m : Nat) (l : List UInt8), bitsIn (l.drop m) = (bitsIn l).drop (8 * m)
  | 0, l => rfl
  | m + 1, [] => by simp [bitsIn]
  | m + 1, b :: l => by
    have e : bitsIn (b :: l) = bin b.toNat 8 ++ bitsIn l := by simp [bitsIn]
    rw [List.drop_succ_cons, bitsIn_drop m l, e, show 8 * (m + 1) = (bin b.toNat 8).length + 8 * m by rw [bin_length]; omega, ← List.drop_drop, List.drop_left]

theorem BytesAt.behind {w : World} {b off : Nat} {l : List UInt8} (h : ∀ i, i < l.length → w.cell? ⟨b, off + i, none⟩ = some (.int .u8 (l.getD i 0).toNat)) (k : Nat) : BytesAt w (some ⟨b, off + k, none⟩) (l.drop k) := by
  refine .inr ⟨b, off + k, rfl, fun i hi => ?_⟩
  rw [List.length_drop] at hi
  have := h (k + i) (by omega)
  rw [show off + k + i = off + (k + i) by omega, this]
  simp [List.getD]
/-- How Feed of an open Decoder ends. -/
def FeedAns (w w' : World) (q : Nat) (all p : List UInt8) (fs : List (List Tok × List UInt8)) (r : Ending) : Prop :=
  OneKept w w' q ∧ ∃ fs' e' vy, Told (all ++ p) (fs ++ fs') e' ∧ OwnB w' w.heap.size vy (dataOf fs') ∧
    (((e' = 0 ∨ e' = 4) ∧ r = .returned (.tuple #[vy, .int .i64 0]) ∧ ∃ v', DecAt w' q v' (all ++ p) (fs ++ fs') e' ∧ (∀ k, v'.ownBlock = some k → w.heap.size ≤ k ∧ vy.ownBlock ≠ some k)) ∨
     (e' ≠ 0 ∧ e' ≠ 4 ∧ r = .returned (.tuple #[vy, .int .i64 e']) ∧ DecBox w' q true e' 0 0 (.slice none 0 0)))

/-- How Feed ends where nothing is wrong. -/
theorem feed_fin {w w3 w4 : World} {q : Nat} {all p S : List UInt8} {fs fs' : List (List Tok × List UInt8)} {e' n : Int} {st' m B2 : Nat} {x a b : Value} {yo no : Option Addr} {yc nc : Nat} {Y : List UInt8} (hq : q < w.heap.size) (hb3 : Below w.heap.size w w3) (hB2 : w.heap.size ≤ B2) (hbx : w3.heap[q]? = some (.cells #[.bool true, .int .i64 0, a, b, x] 86 (0, 0)))
    (hn : n = ((all ++ p).length : Int)) (hal : (all ++ p).length ≤ 4096) (hsl : S.length ≤ (all ++ p).length) (hrun : Runs 0 (bitsIn (all ++ p)) (fs ++ fs') st' (bitsIn (S.drop m))) (hstop : Stops st' (bitsIn (S.drop m)) e') (he : e' = 0 ∨ e' = 4) (hst : st' ≤ 3) (hy : OwnB w3 B2 (.slice yo Y.length yc) Y) (hY : dataOf fs' = Y)
    (hv : OwnB w4 ((w3.setCell ⟨q, 2, none⟩ (.int .i64 n)).setCell ⟨q, 3, none⟩ (.int .i64 st')).heap.size (.slice no (S.drop m).length nc) (S.drop m)) (hb4 : Below ((w3.setCell ⟨q, 2, none⟩ (.int .i64 n)).setCell ⟨q, 3, none⟩ (.int .i64 st')).heap.size ((w3.setCell ⟨q, 2, none⟩ (.int .i64 n)).setCell ⟨q, 3, none⟩ (.int .i64 st')) w4) :
    FeedAns w (w4.setCell ⟨q, 4, none⟩ (.slice no (S.drop m).length nc)) q all p fs (.returned (.tuple #[.slice yo Y.length yc, .int .i64 0])) := by
  have hsz : ((w3.setCell ⟨q, 2, none⟩ (.int .i64 n)).setCell ⟨q, 3, none⟩ (.int .i64 st')).heap.size = w3.heap.size := by rw [set_size, set_size]
  have hbx3 := set_block (i := 3) (set_block (i := 2) hbx (.int .i64 n)) (.int .i64 st')
  have hs3 := hb3.size
  have hk3 : OneKept w3 ((w3.setCell ⟨q, 2, none⟩ (.int .i64 n)).setCell ⟨q, 3, none⟩ (.int .i64 st')) q := ((OneKept.refl _ _).set _).set _
  have hk4 : OneKept w3 w4 q := hk3.trans (OneKept.ofBelow hb4)
  have hk5 : OneKept w3 (w4.setCell ⟨q, 4, none⟩ (.slice no (S.drop m).length nc)) q := hk4.set _
  rw [hsz] at hv
  have hvb : ∀ k, (Value.slice no (S.drop m).length nc).ownBlock = some k → w3.heap.size ≤ k := fun k hk => (World.ownsRow.lt hv k hk).1
  refine ⟨(OneKept.ofBelow hb3).trans hk5, fs', e', .slice yo Y.length yc, ⟨st', _, hrun, hstop⟩, ?_, .inl ⟨he, rfl, .slice no (S.drop m).length nc, ⟨st', S.drop m, ?_, ?_, hrun, hstop, he, hst, hal, ?_⟩, fun k hk => ⟨?_, fun e => ?_⟩⟩⟩
  · rw [hY]; exact row_le (row_one hy hk5 (by omega)) hB2
  · have h4 : w4.heap[q]? = _ := (hb4.block q (by rw [hsz]; omega)).trans hbx3
    have := set_block (i := 4) h4 (.slice no (S.drop m).length nc)
    rw [← hn]
    exact this
  · exact row_le (ownsRow_setCell_below hv (by show q < w3.heap.size; omega) _) (Nat.zero_le _)
  · rw [List.length_drop]; omega
  · have := hvb k hk; omega
  · have h1 := hvb k hk
    have h2 := (World.ownsRow.lt hy k e).2
    omega

set_option maxHeartbeats 4000000 in
theorem feed_calls (q : Nat) (v : Value) (all p : List UInt8) (fs : List (List Tok × List UInt8)) (e : Int) (pa : Option Addr) (pc : Nat) (w : World) (h : DecAt w q v all fs e) (hp : BytesAt w pa p) (hpc : pa = none → p.length = 0 ∧ pc = 0) (hl : all.length + p.length ≤ 4096) :
    Calls Tryz.prog 43 #[.pointer (some ⟨q, 0, none⟩), .slice pa p.length pc] w fun r w' => FeedAns w w' q all p fs r := by
  have hq := h.lt
  obtain ⟨st, rest, hbox, hrest, hrun, hstop, he, hst, hal, hrl⟩ := h
  obtain ⟨ro, rc, rfl⟩ := hrest.form
  obtain ⟨⟨c0, c1, c2, c3, c4⟩, f0, f1, f2, f3, f4⟩ := penta_cell hbox
  have HBOX : Hid (DecBox w q true 0 all.length st (.slice ro rest.length rc)) := hbox
  have HJ : Hid _ := joined_calls ro pa rest p rc pc w (OwnB.bytes hrest) hp (fun hn => by
    subst hn
    rcases hrest.2 with ⟨h1, h2⟩ | ⟨g, cap, cur, h1, _⟩
    · simp at h1; exact ⟨h2, h1.2⟩
    · simp at h1) hpc (by omega) (by omega)
  have HRUN : Hid (Runs 0 (bitsIn all) fs st (bitsIn rest)) := hrun
  have hlp : ¬ (4096 : Int) - (all.length : Int) < (p.length : Int) := by omega
  have HREST : Hid (OwnB w 0 (.slice ro rest.length rc) rest) := hrest
  clear hbox hrest hrun hstop he hp hpc
  go_enter Tryz.func43, Tryz.ntmps43
  go_wp2_with fail
  refine Calls.mono HJ.out ?_
  rintro r w1 ⟨vs, rfl, hvs, hb1⟩
  obtain ⟨so, sc, rfl⟩ := hvs.form
  have hSl : (rest ++ p).length ≤ 4096 := by rw [List.length_append]; omega
  have HRUN1 : Hid (Runs 0 (bitsIn (all ++ p)) fs st (bitsIn (rest ++ p))) := by
    show Runs _ _ _ _ _
    rw [bitsIn_append, bitsIn_append]
    exact HRUN.out.more _ (by rw [bitsIn_length]; omega)
  have HSL : Hid ((rest ++ p).length ≤ (all ++ p).length) := by show _ ≤ _; rw [List.length_append, List.length_append]; omega
  have HAL : Hid ((all ++ p).length = all.length + p.length) := List.length_append
  generalize rest ++ p = S at *
  have HS1 : Hid (OwnB w1 w.heap.size (.slice so S.length sc) S) := hvs
  have HB1 : Hid (Below w.heap.size w w1) := hb1
  have hs1 := hb1.size
  have HBOX1 : Hid (DecBox w1 q true 0 all.length st (.slice ro rest.length rc)) := by
    show w1.heap[q]? = _
    rw [hb1.block q hq]; exact HBOX.out
  obtain ⟨⟨c0, c1, c2, c3, c4⟩, f0, f1, f2, f3, f4⟩ := penta_cell HBOX1.out
  have HRO : Hid _ := readOn_calls so S sc st w1 hSl hst (OwnB.bytes hvs)
  clear hvs hb1 HJ
  go_wp2_with fail
  refine Calls.mono HRO.out ?_
  rintro r w2 ⟨hb2, fs', fo, fc, st', m, e', rfl, hfr, hfl, hdl, hm, hst', hrun', hstop'⟩
  have HB2 : Hid (Below w.heap.size w w2) := HB1.out.trans (hb2.mono hs1)
  have hs2 : w.heap.size ≤ w2.heap.size := by have := hb2.size; omega
  have HS2 : Hid (OwnB w2 w.heap.size (.slice so S.length sc) S) := HS1.out.below hb2
  have HBOX2 : Hid (DecBox w2 q true 0 all.length st (.slice ro rest.length rc)) := by
    show w2.heap[q]? = _
    rw [hb2.block q (by omega)]; exact HBOX1.out
  have HT : Hid (Runs 0 (bitsIn (all ++ p)) (fs ++ fs') st' (bitsIn (S.drop m))) := by
    show Runs _ _ _ _ _
    rw [bitsIn_drop]; exact HRUN1.out.trans hrun'
  have HST : Hid (Stops st' (bitsIn (S.drop m)) e') := by
    show Stops _ _ _
    rw [bitsIn_drop]; exact hstop'
  have HDT : Hid _ := dataOf_calls w1.heap.size fo fc fs' (w2.alloc (.cells #[.slice fo fs'.length fc, .int .i64 st', .int .i64 m] 128)) (hfr.below ((Below.refl _ _).alloc (Nat.le_refl _) _)) hfl hdl
  clear HRO hb2 hfr hrun' hstop' HRUN1 HRUN HB1 HS1
  go_wp2_with fail
  refine Calls.mono HDT.out ?_
  rintro r w3 ⟨vy, rfl, hvy, hb3⟩
  obtain ⟨yo, yc, rfl⟩ := hvy.form
  have hz3 : w2.heap.size + 1 ≤ w3.heap.size := by have := hb3.size; simpa using this
  have hb3' : Below w2.heap.size w2 w3 := ((Below.refl _ _).alloc (Nat.le_refl _) _).trans (hb3.mono (by simp))
  have HB3 : Hid (Below w.heap.size w w3) := HB2.out.trans (hb3'.mono hs2)
  have HY3 : Hid (OwnB w3 (w2.heap.size + 1) (.slice yo (dataOf fs').length yc) (dataOf fs')) := row_le hvy (by simp)
  have HS3 : Hid (OwnB w3 w.heap.size (.slice so S.length sc) S) := HS2.out.below hb3'
  have HSB : Hid (∀ k, (Value.slice so S.length sc).ownBlock = some k → k < w2.heap.size) := fun k hk => (World.ownsRow.lt HS2.out k hk).2
  have HBOX3 : Hid (DecBox w3 q true 0 all.length st (.slice ro rest.length rc)) := by
    show w3.heap[q]? = _
    rw [hb3'.block q (by omega)]; exact HBOX2.out
  have HGX : Hid (w3.heap[w2.heap.size]? = some (.cells #[.slice fo fs'.length fc, .int .i64 st', .int .i64 m] 128 (0, 0))) := by
    show _ = _
    rw [hb3.block _ (by simp)]; exact heap_alloc_new w2 _
  obtain ⟨⟨c0, c1, c2, c3, c4⟩, f0, f1, f2, f3, f4⟩ := penta_cell HBOX3.out
  obtain ⟨⟨g0, g1, g2⟩, _⟩ := trio_cell HGX.out
  clear HDT hvy hb3 hb3' HBOX2 HS2 HB2
  generalize hYD : dataOf fs' = Y at *
  have HYD : Hid (dataOf fs' = Y) := hYD
  clear hYD hdl
  by_cases he : e' = 0 ∨ e' = 4
  · have heb : ((e' != 0) && (e' != 4)) = false := by rcases he with rfl | rfl <;> rfl
    have HE : Hid (e' = 0 ∨ e' = 4) := he
    have hap : wrap64 ((all.length : Int) + (p.length : Int)) = ((all ++ p).length : Int) := by rw [HAL.out]; exact IntWalk.wrap64_in _ ⟨by omega, by omega⟩
    have hD : (S.drop m).length = S.length - m := List.length_drop
    have HSB3 : Hid (∀ k, (Value.slice so S.length sc).ownBlock = some k → w.heap.size ≤ k) := fun k hk => (World.ownsRow.lt HS3.out k hk).1
    have HS4 : Hid (OwnB ((w3.setCell ⟨q, 2, none⟩ (.int .i64 ((all.length : Int) + (p.length : Int)))).setCell ⟨q, 3, none⟩ (.int .i64 st')) w.heap.size (.slice so S.length sc) S) := ownsRow_setCell_below (ownsRow_setCell_below HS3.out (by exact hq) _) (by exact hq) _
    have HJ2 : Hid (∀ ta tc, BytesAt ((w3.setCell ⟨q, 2, none⟩ (.int .i64 ((all.length : Int) + (p.length : Int)))).setCell ⟨q, 3, none⟩ (.int .i64 st')) ta (S.drop m) → (ta = none → S.length - m = 0 ∧ tc = 0) → Calls Tryz.prog 78 #[.slice none 0 0, .slice ta (S.length - m) tc] ((w3.setCell ⟨q, 2, none⟩ (.int .i64 ((all.length : Int) + (p.length : Int)))).setCell ⟨q, 3, none⟩ (.int .i64 st')) fun e w' => ∃ v, e = .returned v ∧ OwnB w' ((w3.setCell ⟨q, 2, none⟩ (.int .i64 ((all.length : Int) + (p.length : Int)))).setCell ⟨q, 3, none⟩ (.int .i64 st')).heap.size v (S.drop m) ∧ Below ((w3.setCell ⟨q, 2, none⟩ (.int .i64 ((all.length : Int) + (p.length : Int)))).setCell ⟨q, 3, none⟩ (.int .i64 st')).heap.size ((w3.setCell ⟨q, 2, none⟩ (.int .i64 ((all.length : Int) + (p.length : Int)))).setCell ⟨q, 3, none⟩ (.int .i64 st')) w') := fun ta tc h1 h2 => by
      have := joined_calls none ta [] (S.drop m) 0 tc ((w3.setCell ⟨q, 2, none⟩ (.int .i64 ((all.length : Int) + (p.length : Int)))).setCell ⟨q, 3, none⟩ (.int .i64 st')) (.inl rfl) h1 (fun _ => ⟨rfl, rfl⟩) (by rw [hD]; exact h2) (by simp) (by rw [hD]; omega)
      rw [hD] at this
      exact this
    have HFIN : Hid (∀ w4 no nc, OwnB w4 ((w3.setCell ⟨q, 2, none⟩ (.int .i64 ((all.length : Int) + (p.length : Int)))).setCell ⟨q, 3, none⟩ (.int .i64 st')).heap.size (.slice no (S.drop m).length nc) (S.drop m) → Below ((w3.setCell ⟨q, 2, none⟩ (.int .i64 ((all.length : Int) + (p.length : Int)))).setCell ⟨q, 3, none⟩ (.int .i64 st')).heap.size ((w3.setCell ⟨q, 2, none⟩ (.int .i64 ((all.length : Int) + (p.length : Int)))).setCell ⟨q, 3, none⟩ (.int .i64 st')) w4 → FeedAns w (w4.setCell ⟨q, 4, none⟩ (.slice no (S.drop m).length nc)) q all p fs (.returned (.tuple #[.slice yo Y.length yc, .int .i64 0]))) := fun w4 no nc h1 h2 =>
      feed_fin hq HB3.out (by omega) HBOX3.out (by rw [HAL.out]; omega) (by rw [HAL.out]; omega) HSL.out HT.out HST.out HE.out hst' HY3.out HYD.out h1 h2
    have HBX : Hid (∀ w4, Below ((w3.setCell ⟨q, 2, none⟩ (.int .i64 ((all.length : Int) + (p.length : Int)))).setCell ⟨q, 3, none⟩ (.int .i64 st')).heap.size ((w3.setCell ⟨q, 2, none⟩ (.int .i64 ((all.length : Int) + (p.length : Int)))).setCell ⟨q, 3, none⟩ (.int .i64 st')) w4 → w4.cell? ⟨q, 4, none⟩ = some (.slice ro rest.length rc) ∧ w4.frozen? ⟨q, 4, none⟩ = false) := fun w4 h => by
      have h0 := set_block (i := 3) (set_block (i := 2) HBOX3.out (.int .i64 ((all.length : Int) + (p.length : Int)))) (.int .i64 st')
      have hx : w4.heap[q]? = _ := (h.block q (by rw [set_size, set_size]; omega)).trans h0
      have := penta_cell (a := .bool true) (b := .int .i64 0) (c := .int .i64 ((all.length : Int) + (p.length : Int))) (d := .int .i64 st') (e := .slice ro rest.length rc) hx
      exact ⟨this.1.2.2.2.2, this.2.2.2.2.2⟩
    have hsf := HS3.out.2
    have hq2 : q < w3.heap.size := by omega
    have hg2 : ¬ w2.heap.size = q := by omega
    clear hap heb HSB3
    rcases hsf with ⟨h1, h2⟩ | ⟨g, cap, cur, h1, hgB, hgx, hgl, hgm, _⟩
    · obtain rfl : S = [] := List.eq_nil_of_length_eq_zero h2
      simp at h1
      obtain ⟨rfl, rfl⟩ := h1
      obtain rfl : m = 0 := by simp at hm; exact hm
      have HJ3 : Hid _ := HJ2.out none 0 (.inl rfl) (fun _ => ⟨rfl, rfl⟩)
      clear HJ2
      rcases he with rfl | rfl
      all_goals
        go_wp2_with fail
        refine Calls.mono HJ3.out ?_
        rintro r w4 ⟨v', rfl, hv', hb4⟩
        obtain ⟨no, nc, rfl⟩ := hv'.form
        have HFF : Hid _ := HFIN.out w4 no nc hv' hb4
        obtain ⟨k4, j4⟩ := HBX.out w4 hb4
        clear hv' hb4
        go_wp2
        go_ret2
        exact HFF.out
    · simp at h1
      obtain ⟨rfl, rfl⟩ := h1
      have hcell : ∀ i, i < S.length → ((w3.setCell ⟨q, 2, none⟩ (.int .i64 ((all.length : Int) + (p.length : Int)))).setCell ⟨q, 3, none⟩ (.int .i64 st')).cell? ⟨g, 0 + i, none⟩ = some (.int .u8 (S.getD i 0).toNat) := fun i hi => by
        obtain ⟨g', c', h1, _, _, h2⟩ := HS4.out.at (by omega)
        simp at h1
        rw [Nat.zero_add, h1.1]; exact h2 i hi
      have hpt := BytesAt.behind hcell m
      rw [Nat.zero_add] at hpt
      have HFIN2 : Hid (∀ w4 no nc, OwnB w4 ((w3.setCell ⟨q, 2, none⟩ (.int .i64 ((all.length : Int) + (p.length : Int)))).setCell ⟨q, 3, none⟩ (.int .i64 st')).heap.size (.slice no (S.drop m).length nc) (S.drop m) → Below ((w3.setCell ⟨q, 2, none⟩ (.int .i64 ((all.length : Int) + (p.length : Int)))).setCell ⟨q, 3, none⟩ (.int .i64 st')).heap.size ((w3.setCell ⟨q, 2, none⟩ (.int .i64 ((all.length : Int) + (p.length : Int)))).setCell ⟨q, 3, none⟩ (.int .i64 st')) w4 → FeedAns w (w4.setCell ⟨q, 4, none⟩ (.slice no (S.length - m) nc)) q all p fs (.returned (.tuple #[.slice yo Y.length yc, .int .i64 0]))) := fun w4 no nc h1 h2 => by
        have := HFIN.out w4 no nc h1 h2
        rw [hD] at this
        exact this
      have HD : Hid ((S.drop m).length = S.length - m) := hD
      clear hD HFIN
      by_cases hcm : sc = m
      · have hm0 : S.length - m = 0 := by omega
        have HJ3 : Hid _ := HJ2.out (some ⟨g, 0, none⟩) 0 (.inl (List.eq_nil_of_length_eq_zero (by rw [HD.out]; exact hm0))) (fun h => by cases h)
        rw [hm0] at HJ3
        have hb1 : (0 : Int) ≤ (m : Int) ∧ (m : Int) ≤ (S.length : Int) ∧ (S.length : Int) ≤ (sc : Int) := by omega
        rw [hm0] at HFIN2
        rw [hm0] at HD
        clear HJ2 hpt hcell
        rcases he with rfl | rfl
        all_goals
          go_wp2_with fail
          refine Calls.mono HJ3.out ?_
          rintro r w4 ⟨v', rfl, hv', hb4⟩
          obtain ⟨no, nc, rfl⟩ := hv'.form
          have HFF : Hid _ := HFIN2.out w4 no nc hv' hb4
          obtain ⟨k4, j4⟩ := HBX.out w4 hb4
          clear hv' hb4
          rw [HD.out]
          go_wp2
          go_ret2
          exact HFF.out
      · have HJ3 : Hid _ := HJ2.out (some ⟨g, m, none⟩) (sc - m) hpt (fun h => by cases h)
        have hb1 : (0 : Int) ≤ (m : Int) ∧ (m : Int) ≤ (S.length : Int) ∧ (S.length : Int) ≤ (sc : Int) := by omega
        clear HJ2 hpt hcell
        rcases he with rfl | rfl
        all_goals
          go_wp2_with fail
          refine Calls.mono HJ3.out ?_
          rintro r w4 ⟨v', rfl, hv', hb4⟩
          obtain ⟨no, nc, rfl⟩ := hv'.form
          have HFF : Hid _ := HFIN2.out w4 no nc hv' hb4
          obtain ⟨k4, j4⟩ := HBX.out w4 hb4
          clear hv' hb4
          rw [HD.out]
          go_wp2
          go_ret2
          exact HFF.out
  · have he0 : (e' != 0) = true := by simp; omega
    have he4 : (e' != 4) = true := by simp; omega
    have HE : Hid (e' ≠ 0 ∧ e' ≠ 4) := ⟨fun h => he (.inl h), fun h => he (.inr h)⟩
    have HFL : Hid _ := fail_calls q 0 all.length st e' true ro rest.length rc w3 HBOX3.out
    clear he
    go_wp2_with fail
    refine Calls.mono HFL.out ?_
    rintro r w4 ⟨rfl, hbx4, hk4⟩
    have HBX4 : Hid _ := hbx4
    have HK4 : Hid (OneKept w w4 q) := (OneKept.ofBelow HB3.out).trans hk4
    have HY4 : Hid (OwnB w4 w.heap.size (.slice yo Y.length yc) Y) := row_le (row_one HY3.out hk4 (by omega)) (by omega)
    clear hbx4 hk4 HFL
    go_wp2
    go_ret2
    exact ⟨HK4.out, fs', e', _, ⟨st', _, HT.out, HST.out⟩, by rw [HYD.out]; exact HY4.out, .inr ⟨HE.out.1, HE.out.2, rfl, HBX4.out⟩⟩
end Go.Proofs.YtnpnaglgllcpfaaGreat

/- What the program's Decoder answers: Feed of one that is closed, or has an error, or is fed too much; End. -/
namespace Go.Proofs.YtnpnaglgllcpfaaGreat
set_option maxRecDepth 100000
open Go.RowKit

theorem rNum_code {e : Int} : ∀ {R : List Bool} {z : Nat} {c : Int}, rNum e z R = .error c → c = 4 ∨ c = e
  | [], _, _, h => by simp [rNum] at h; omega
  | true :: R, z, c, h => by
    simp only [rNum] at h
    split at h
    · simp at h; omega
    · cases h
  | false :: R, z, c, h => by
    simp only [rNum] at h
    split at h
    · simp at h; omega
    · exact rNum_code h
theorem rTok_code {made left : Nat} {R : List Bool} {c : Int} (h : rTok made left R = .error c) : c = 4 ∨ c = 6 := by
  match R, h with
  | [], h => simp [rTok] at h; omega
  | false :: R, h =>
    simp only [rTok] at h
    split at h
    · simp at h; omega
    · cases h
  | true :: R, h =>
    simp only [rTok] at h
    split at h
    · rename_i hn
      have := rNum_code hn
      simp at h; omega
    · split at h
      · simp at h; omega
      · split at h
        · rename_i hn
          have := rNum_code hn
          simp at h; omega
        · split at h
          · simp at h; omega
          · cases h
theorem rToks_code {n : Nat} : ∀ {f made : Nat} {R : List Bool} {c : Int}, rToks n f made R = .error c → c = 4 ∨ c = 6
  | 0, made, R, c, h => by simp [rToks] at h
  | f + 1, made, R, c, h => by
    simp only [rToks] at h
    split at h
    · cases h
    · split at h
      · rename_i ht
        have := rTok_code ht
        simp at h; omega
      · split at h
        · rename_i hu
          have := rToks_code hu
          simp at h; omega
        · cases h
theorem part_ok_ne {st : Nat} {R : List Bool} : part st R ≠ .error 0 := by
  intro h
  by_cases h0 : st = 0
  · subst h0
    have hm : ∀ (bs : List Nat) (R : List Bool) (c : Int), rMagic bs R = .error c → c = 4 ∨ c = 3 := by
      intro bs
      induction bs with
      | nil => intro R c h; simp [rMagic] at h
      | cons b bs ih =>
        intro R c h
        simp only [rMagic] at h
        split at h
        · simp at h; omega
        · split at h
          · exact ih _ _ h
          · simp at h; omega
    rcases hx : rMagic [80, 90, 49] R with c' | R1
    · rw [part_begin_err hx] at h
      have := hm _ _ _ hx
      simp at h; omega
    · rw [part_begin hx] at h; cases h
  · rcases hs : rStep (decide (st = 2)) R with c' | ⟨_ | ts, R1⟩
    · rw [part_err h0 hs] at h
      simp at h
      subst h
      simp only [rStep] at hs
      split at hs
      · rename_i hn
        have := rNum_code hn
        simp at hs; omega
      · split at hs
        · split at hs <;> simp at hs
        · split at hs
          · simp at hs
          · split at hs
            · rename_i hf
              simp only [rFrame] at hf
              simp at hs
              split at hf
              · rename_i ht
                have := rToks_code ht
                simp at hf; omega
              · split at hf
                · simp at hf; omega
                · split at hf
                  · simp at hf; omega
                  · split at hf
                    · simp at hf; omega
                    · cases hf
            · cases hs
    · rw [part_none h0 hs] at h; cases h
    · rw [part_some h0 hs] at h; cases h
theorem feed_nil_calls (pa : Option Addr) (n pc : Nat) (w : World) :
    Calls Tryz.prog 43 #[.pointer none, .slice pa n pc] w fun r w' => r = .returned (.tuple #[.slice none 0 0, .int .i64 10]) ∧ w' = w := by
  go_enter Tryz.func43, Tryz.ntmps43
  go_wp2
  go_ret2
  exact ⟨rfl, rfl⟩
theorem feed_shut_calls (q : Nat) (e n s : Int) (v : Value) (pa : Option Addr) (pn pc : Nat) (w : World) (h : DecBox w q false e n s v) :
    Calls Tryz.prog 43 #[.pointer (some ⟨q, 0, none⟩), .slice pa pn pc] w fun r w' => r = .returned (.tuple #[.slice none 0 0, .int .i64 10]) ∧ w' = w := by
  obtain ⟨⟨c0, _⟩, _⟩ := penta_cell h
  clear h
  go_enter Tryz.func43, Tryz.ntmps43
  go_wp2
  go_ret2
  exact ⟨rfl, rfl⟩
theorem feed_bad_calls (q : Nat) (e n s : Int) (v : Value) (pa : Option Addr) (pn pc : Nat) (w : World) (h : DecBox w q true e n s v) (he : e ≠ 0) :
    Calls Tryz.prog 43 #[.pointer (some ⟨q, 0, none⟩), .slice pa pn pc] w fun r w' => r = .returned (.tuple #[.slice none 0 0, .int .i64 e]) ∧ ∃ nd, w' = w.drewN nd := by
  obtain ⟨⟨c0, c1, _⟩, _⟩ := penta_cell h
  have heb : (e != 0) = true := by simpa using he
  clear h he
  go_enter Tryz.func43, Tryz.ntmps43
  go_wp2_with fail
  go_quiet (fail)
  go_wp2
  go_ret2
  exact ⟨rfl, _, rfl⟩
set_option maxHeartbeats 1000000 in
theorem feed_long_calls (q : Nat) (v : Value) (all : List UInt8) (fs : List (List Tok × List UInt8)) (e : Int) (pa : Option Addr) (pn pc : Nat) (w : World) (h : DecAt w q v all fs e) (hl : 4096 < all.length + pn) :
    Calls Tryz.prog 43 #[.pointer (some ⟨q, 0, none⟩), .slice pa pn pc] w fun r w' => r = .returned (.tuple #[.slice none 0 0, .int .i64 1]) ∧ DecBox w' q true 1 0 0 (.slice none 0 0) ∧ OneKept w w' q := by
  obtain ⟨st, rest, hbox, hrest, _, _, _, hst, hal, hrl⟩ := h
  obtain ⟨ro, rc, rfl⟩ := hrest.form
  obtain ⟨⟨c0, c1, c2, c3, c4⟩, _⟩ := penta_cell hbox
  have HF : Hid _ := fail_calls q 0 all.length st 1 true ro rest.length rc w hbox
  have hlp : (4096 : Int) - (all.length : Int) < (pn : Int) := by omega
  clear hbox hrest
  go_enter Tryz.func43, Tryz.ntmps43
  go_wp2_with fail
  refine Calls.mono HF.out ?_
  rintro r w1 ⟨rfl, h1, h2⟩
  have H1 : Hid _ := h1
  have H2 : Hid (OneKept w w1 q) := h2
  clear h1 h2 HF
  go_wp2
  go_ret2
  exact ⟨rfl, H1.out, H2.out⟩
theorem end_nil_calls (w : World) :
    Calls Tryz.prog 41 #[.pointer none] w fun r w' => r = .returned (.int .i64 10) ∧ w' = w := by
  go_enter Tryz.func41, Tryz.ntmps41
  go_wp2
  go_ret
  exact ⟨rfl, rfl⟩
theorem end_shut_calls (q : Nat) (e n s : Int) (v : Value) (w : World) (h : DecBox w q false e n s v) :
    Calls Tryz.prog 41 #[.pointer (some ⟨q, 0, none⟩)] w fun r w' => r = .returned (.int .i64 10) ∧ w' = w := by
  obtain ⟨⟨c0, _⟩, _⟩ := penta_cell h
  clear h
  go_enter Tryz.func41, Tryz.ntmps41
  go_wp2
  go_ret
  exact ⟨rfl, rfl⟩
set_option maxHeartbeats 1000000 in
theorem end_bad_calls (q : Nat) (e n s : Int) (ro : Option Addr) (rl rc : Nat) (w : World) (h : DecBox w q true e n s (.slice ro rl rc)) (he : e ≠ 0) :
    Calls Tryz.prog 41 #[.pointer (some ⟨q, 0, none⟩)] w fun r w' => r = .returned (.int .i64 e) ∧ DecBox w' q false 0 0 0 (.slice none 0 0) ∧ OneKept w w' q := by
  obtain ⟨⟨c0, c1, c2, c3, c4⟩, f0, f1, f2, f3, f4⟩ := penta_cell h
  have HF : Hid _ := set5 h (.bool false) (.int .i64 0) (.int .i64 0) (.int .i64 0) (.slice none 0 0)
  have heb : (e == 0) = false := beq_eq_false_iff_ne.2 he
  clear h he
  go_enter Tryz.func41, Tryz.ntmps41
  go_wp2
  go_ret
  exact ⟨rfl, HF.out, ((((OneKept.refl _ _).set _).set _).set _).set _ |>.set _⟩
set_option maxHeartbeats 1000000 in
theorem end_calls (q : Nat) (v : Value) (all : List UInt8) (fs : List (List Tok × List UInt8)) (e : Int) (w : World) (h : DecAt w q v all fs e) :
    Calls Tryz.prog 41 #[.pointer (some ⟨q, 0, none⟩)] w fun r w' => r = .returned (.int .i64 e) ∧ DecBox w' q false 0 0 0 (.slice none 0 0) ∧ OneKept w w' q := by
  obtain ⟨st, rest, hbox, hrest, _, hstop, he, hst, hal, hrl⟩ := h
  obtain ⟨ro, rc, rfl⟩ := hrest.form
  obtain ⟨⟨c0, c1, c2, c3, c4⟩, f0, f1, f2, f3, f4⟩ := penta_cell hbox
  have HF : Hid _ := set5 hbox (.bool false) (.int .i64 0) (.int .i64 0) (.int .i64 0) (.slice none 0 0)
  have key : (st = 3 ∧ e = 0) ∨ (st ≠ 3 ∧ e = 4) := by
    rcases hstop with ⟨h3, ⟨_, h⟩ | ⟨_, h⟩⟩ | ⟨h3, h⟩
    · exact .inl ⟨h3, h⟩
    · omega
    · rcases he with rfl | rfl
      · exfalso
        exact part_ok_ne h
      · exact .inr ⟨h3, rfl⟩
  clear hbox hrest hstop he
  rcases key with ⟨h3, rfl⟩ | ⟨h3, rfl⟩
  · have h3' : ((st : Int) != 3) = false := by simp; omega
    clear h3
    go_enter Tryz.func41, Tryz.ntmps41
    go_wp2
    go_ret
    exact ⟨rfl, HF.out, ((((OneKept.refl _ _).set _).set _).set _).set _ |>.set _⟩
  · have h3' : ((st : Int) != 3) = true := by simp; omega
    clear h3
    go_enter Tryz.func41, Tryz.ntmps41
    go_wp2
    go_ret
    exact ⟨rfl, HF.out, ((((OneKept.refl _ _).set _).set _).set _).set _ |>.set _⟩
end Go.Proofs.YtnpnaglgllcpfaaGreat

/- Bytes in memory appended to a row of bytes, and where the new row lies; memory but for some blocks. -/
namespace Go.Proofs.YtnpnaglgllcpfaaGreat
set_option maxRecDepth 100000
open Go.RowKit

theorem news_bytes {w : World} {ad : Addr} {l : List UInt8} (hb : BytesAt w (some ad) l) : ∀ j u, (cellsB l)[j]? = some u → w.cell? (ad.add j) = some u := by
  intro j u hj
  rcases hb with rfl | ⟨b, off, h1, h2⟩
  · simp [cellsB] at hj
  · have hjl : j < l.length := by
      have := (List.getElem?_eq_some_iff.1 hj).1
      simpa [cellsB] using this
    simp at h1
    subst h1
    have hadd : (⟨b, off, none⟩ : Addr).add j = ⟨b, off + j, none⟩ := by unfold Addr.add; split <;> simp_all
    rw [hadd, h2 j hjl]
    simp [cellsB, hjl] at hj
    rw [← hj]
    simp [List.getD, hjl]
theorem run_append_bytes {w : World} {ty : TypeId} (base : Nat) (v : Value) (out : List UInt8) (hown : OwnB w base v out) (sa : Option Addr) (l : List UInt8) (cap : Nat) (hb : BytesAt w sa l) (hc : sa = none → l.length = 0 ∧ cap = 0)
    (h63 : out.length + l.length ≤ 140737488355328) (hbase : base ≤ w.heap.size) :
    ∃ v' w', (Builtin.append_ #[37, 37] ty #[v, .slice sa l.length cap]).run Tryz.prog w = .ok v' w' ∧ OwnB w' base v' (out ++ l) ∧ w.grownBy w' v.ownBlock ∧ (v'.ownBlock = v.ownBlock ∨ v'.ownBlock = some w.heap.size) := by
  obtain ⟨i0, hi, hz0, hz1, hz2⟩ := info_parts info8
  rcases sa with _ | ad
  · obtain ⟨h0, rfl⟩ := hc rfl
    obtain rfl : l = [] := List.eq_nil_of_length_eq_zero h0
    exact ⟨v, w, run_append_owned_none w base 37 ty 5 i0 1 Tryz.underlying37 hi v out.length (cellsB out) hown, by rw [List.append_nil]; exact hown, grown_refl _ _, .inl rfl⟩
  · obtain ⟨v', w', hr, h2, h3, _, h5⟩ := run_append_own_at (P := Tryz.prog) w base 37 ty 5 i0 (.int .u8 0) 1 1 Tryz.underlying37 hi hz0 hz1 hz2 rfl (by decide) v out.length (cellsB out) hown ad l.length cap (cellsB l) (by simp [cellsB]) (news_bytes hb) (fun u hu => by simp [cellsB] at hu; obtain ⟨_, _, rfl⟩ := hu; rfl) (by unfold maxLen; omega) (by omega) hbase
    refine ⟨v', w', hr, ?_, h3, h5⟩
    show w'.ownsRow _ _ _ _ _ _
    rw [List.length_append, show cellsB (out ++ l) = cellsB out ++ cellsB l by simp [cellsB]]
    exact h2
theorem wp_append_at {w : World} {o : Oper} {a : Act} {K : Act → World → Prop} {Q : Exit → Act → World → Prop} (s x : Operand)
    (ho : o.op = .call { callee := .builtin .append, args := #[s, x], argTypes := #[37, 37] })
    (base : Nat) (v : Value) (out : List UInt8) (hs : a.eval s = v) (hown : OwnB w base v out) (sa : Option Addr) (l : List UInt8) (cap : Nat) (hx : a.eval x = .slice sa l.length cap) (hb : BytesAt w sa l) (hc : sa = none → l.length = 0 ∧ cap = 0)
    (h63 : out.length + l.length ≤ 140737488355328) (hbase : base ≤ w.heap.size)
    (h : ∀ v' w', OwnB w' base v' (out ++ l) → w.grownBy w' v.ownBlock → (v'.ownBlock = v.ownBlock ∨ v'.ownBlock = some w.heap.size) → K (a.put o.dst v') w') : o.wp Tryz.prog a w K Q := by
  obtain ⟨v', w', hr, h2, h3, h4⟩ := run_append_bytes (ty := o.type) base v out hown sa l cap hb hc h63 hbase
  unfold Oper.wp execOp
  simp only [ho, resolve, invoke, builtin, Sem.run_bind, Sem.run_pure, Result.andThen_ok, List.map_toArray, List.map_cons, List.map_nil, hs, hx, hr]
  exact h v' w' h2 h3 h4
theorem wpList_append_at {w : World} {ops : Array Oper} {rest : List Oper} {o : Oper} {a : Act} {Q : Exit → Act → World → Prop} (hgd : o.guard = none) (s x : Operand)
    (ho : o.op = .call { callee := .builtin .append, args := #[s, x], argTypes := #[37, 37] })
    (base : Nat) (v : Value) (out : List UInt8) (hs : a.eval s = v) (hown : OwnB w base v out) (sa : Option Addr) (l : List UInt8) (cap : Nat) (hx : a.eval x = .slice sa l.length cap) (hb : BytesAt w sa l) (hc : sa = none → l.length = 0 ∧ cap = 0)
    (h63 : out.length + l.length ≤ 140737488355328) (hbase : base ≤ w.heap.size)
    (h : ∀ v' w', OwnB w' base v' (out ++ l) → w.grownBy w' v.ownBlock → (v'.ownBlock = v.ownBlock ∨ v'.ownBlock = some w.heap.size) → wpList Tryz.prog ops Q rest (a.put o.dst v') w') : wpList Tryz.prog ops Q (o :: rest) a w :=
  wpList_plain hgd fun _ hK => wp_append_at s x ho base v out hs hown sa l cap hx hb hc h63 hbase fun v' w' h2 h3 h4 => hK _ _ (h v' w' h2 h3 h4)
theorem step_append_at {w : World} {ops : Array Oper} {o : Oper} {a : Act} {K : Act → World → Prop} {Q : Exit → Act → World → Prop} {E : Prop} (hgd : o.guard = none) (s x : Operand)
    (ho : o.op = .call { callee := .builtin .append, args := #[s, x], argTypes := #[37, 37] })
    (base : Nat) (v : Value) (out : List UInt8) (hs : a.eval s = v) (hown : OwnB w base v out) (sa : Option Addr) (l : List UInt8) (cap : Nat) (hx : a.eval x = .slice sa l.length cap) (hb : BytesAt w sa l) (hc : sa = none → l.length = 0 ∧ cap = 0)
    (h63 : out.length + l.length ≤ 140737488355328) (hbase : base ≤ w.heap.size)
    (h : ∀ v' w', OwnB w' base v' (out ++ l) → w.grownBy w' v.ownBlock → (v'.ownBlock = v.ownBlock ∨ v'.ownBlock = some w.heap.size) → K (a.put o.dst v') w') :
    if Region.wanted o (yielded ops a.tmps) = true then Oper.wp Tryz.prog o a w K Q else E := by
  have hw : Region.wanted o (yielded ops a.tmps) = true := by simp [Region.wanted, hgd]
  rw [if_pos hw]
  exact wp_append_at s x ho base v out hs hown sa l cap hx hb hc h63 hbase h

/-- What was there is there, but for these blocks. -/
structure KeptBut (w w' : World) (F : List Nat) : Prop where
  os : w'.os = w.os
  tape : w'.tape = w.tape
  output : w'.output = w.output
  size : w.heap.size ≤ w'.heap.size
  heap : ∀ k, k < w.heap.size → k ∉ F → w'.heap[k]? = w.heap[k]?
theorem KeptBut.refl (w : World) (F : List Nat) : KeptBut w w F := ⟨rfl, rfl, rfl, Nat.le_refl _, fun _ _ _ => rfl⟩
theorem KeptBut.trans {w w1 w2 : World} {F : List Nat} (h : KeptBut w w1 F) (k : KeptBut w1 w2 F) : KeptBut w w2 F :=
  ⟨k.os.trans h.os, k.tape.trans h.tape, k.output.trans h.output, Nat.le_trans h.size k.size, fun i hi hq => (k.heap i (Nat.lt_of_lt_of_le hi h.size) hq).trans (h.heap i hi hq)⟩
/-- A step that changed other blocks too, which are new. -/
theorem KeptBut.step {w w1 w2 : World} {F G : List Nat} (h : KeptBut w w1 F) (k : KeptBut w1 w2 G) (hG : ∀ i ∈ G, i ∈ F ∨ w.heap.size ≤ i) : KeptBut w w2 F :=
  ⟨k.os.trans h.os, k.tape.trans h.tape, k.output.trans h.output, Nat.le_trans h.size k.size, fun i hi hq => (k.heap i (Nat.lt_of_lt_of_le hi h.size) (fun hg => by rcases hG i hg with h1 | h1; exact hq h1; omega)).trans (h.heap i hi hq)⟩
theorem KeptBut.below {w w' : World} {F : List Nat} (h : Below w.heap.size w w') : KeptBut w w' F := ⟨h.os, h.tape, h.output, h.size, fun k hk _ => h.block k hk⟩
theorem KeptBut.one {w w' : World} {F : List Nat} {q : Nat} (h : OneKept w w' q) (hq : q ∈ F) : KeptBut w w' F := ⟨h.os, h.tape, h.output, h.size, fun k hk hF => h.heap k hk (fun e => hF (e ▸ hq))⟩
theorem KeptBut.grown {w w' : World} {F : List Nat} {r : Option Nat} (h : w.grownBy w' r) (hr : ∀ k, r = some k → k ∈ F) : KeptBut w w' F := ⟨h.os, h.tape, h.output, h.size, fun k hk hF => h.block k hk (fun e => hF (hr k e.symm))⟩
theorem KeptBut.none {w w' : World} (h : KeptBut w w' []) : Below w.heap.size w w' := ⟨h.os, h.tape, h.output, h.size, fun k hk => h.heap k hk (by simp)⟩
theorem KeptBut.set {w w' : World} {F : List Nat} {q i : Nat} (h : KeptBut w w' F) (hq : q ∈ F) (u : Value) : KeptBut w (w'.setCell ⟨q, i, Option.none⟩ u) F :=
  ⟨h.os, h.tape, h.output, by rw [set_size]; exact h.size, fun k hk hF => by rw [set_other u (by rintro rfl; exact hF hq)]; exact h.heap k hk hF⟩
theorem KeptBut.row {w w' : World} {F : List Nat} {B n z : Nat} {e : TypeId} {v : Value} {xs : List Value} (k : KeptBut w w' F) (h : w.ownsRow B e z v n xs) (hv : ∀ b, v.ownBlock = some b → b ∉ F) : w'.ownsRow B e z v n xs := by
  refine ⟨h.1, ?_⟩
  rcases h.2 with h' | ⟨g, cap, cur, h1, h2, hg, r⟩
  · exact .inl h'
  · refine .inr ⟨g, cap, cur, h1, h2, ?_, r⟩
    rw [k.heap g (Array.getElem?_eq_some_iff.1 hg).1 (hv g (by rw [h1]; rfl))]
    exact hg
end Go.Proofs.YtnpnaglgllcpfaaGreat

/- What the program's Sum, and the document's, tell of some bytes: the same number. -/
namespace Go.Proofs.YtnpnaglgllcpfaaGreat
set_option maxRecDepth 100000
open Go.ChangeShapes Go.WideShapes Go.ChangeAt Go.RowKit
open Go.ChangeMaps (open_string shut_string)
set_option linter.unusedVariables false

theorem sum_calls (a : Option Addr) (l : List UInt8) (cap : Nat) (w : World) (hl : l.length ≤ 140737488355328) (hb : BytesAt w a l) :
    Calls Tryz.prog 23 #[.slice a l.length cap] w fun e w' => e = .returned (.int .i64 (Plain.total l)) ∧ w' = w := by
  have HB : Hid (BytesAt w a l) := hb
  clear hb
  go_enter Tryz.func23, Tryz.ntmps23
  go_wp2_with fail
  refine (of_calls a l cap w hl HB.out).mono ?_
  rintro e w' ⟨rfl, rfl⟩
  go_wp2_with fail
  go_ret
  exact ⟨rfl, rfl⟩
set_option maxHeartbeats 400000 in
theorem refSum_calls (a : Option Addr) (l : List UInt8) (cap : Nat) (w : World) (hl : l.length ≤ 140737488355328) (hb : BytesAt w a l) :
    Calls Tryz.prog 24 #[.slice a l.length cap] w fun e w' => e = .returned (.int .i64 (Plain.total l)) ∧ w' = w := by
  have HB : Hid (BytesAt w a l) := hb
  clear hb
  go_enter Tryz.func24, Tryz.ntmps24
  go_wp2
  go_loop [3, 4, 5] (fun f s i => ∃ k : Nat, k ≤ l.length ∧ i = .int .i64 k ∧ f = .int .i64 (Plain.rawOf (l.take k)).1 ∧ s = .int .i64 (Plain.rawOf (l.take k)).2) (fun _ _ i => l.length - (intOf i).toNat)
  case atStart => exact ⟨0, Nat.zero_le _, rfl, rfl, rfl⟩
  case round =>
    obtain ⟨k, hk, rfl, rfl, rfl⟩ := hrel
    have hr := Plain.raw_range (l.take k)
    have hlk : (l.take k).length ≤ 140737488355328 := by rw [List.length_take]; omega
    by_cases hlt : k < l.length
    · obtain ⟨b, off, ha, hcell⟩ : ∃ b off, a = some ⟨b, off, none⟩ ∧ ∀ i, i < l.length → w.cell? ⟨b, off + i, none⟩ = some (.int .u8 (l.getD i 0).toNat) := by
        rcases HB.out with h | h
        · rw [h] at hlt; simp at hlt
        · exact h
      subst ha
      have hc := hcell k hlt
      clear hcell
      have HS : Hid (Plain.rawOf (l.take (k + 1)) = Plain.rawStep (Plain.rawOf (l.take k)) (l.getD k 0)) := by rw [Plain.take_snoc l k hlt]; exact Plain.rawOf_snoc _ _
      have hcn : (l.getD k 0).toNat < 256 := (l.getD k 0).toNat_lt
      generalize l.getD k 0 = c at *
      generalize Plain.rawOf (l.take k) = p at *
      go_wp2
      go_round
      case rel =>
        refine ⟨k + 1, by omega, by go_num, ?_, ?_⟩
        · rw [HS.out]; simp only [Plain.rawStep]
        · rw [HS.out]; simp only [Plain.rawStep]
      case measure => simp [intOf]; omega
    · have hke : k = l.length := by omega
      have HT : Hid (Plain.total l = (Plain.rawOf (l.take k)).1 % 255 + 256 * ((Plain.rawOf (l.take k)).2 % 255)) := by
        have h := Plain.raw_sum l
        rw [hke, List.take_length, h.1, h.2]; rfl
      clear hke
      generalize Plain.rawOf (l.take k) = p at *
      go_wp2
      go_ret
      exact ⟨ret_int (by rw [HT.out]), rfl⟩
end Go.Proofs.YtnpnaglgllcpfaaGreat

/- Plain facts on what a token makes, byte by byte. -/
namespace Go.Proofs.YtnpnaglgllcpfaaGreat
set_option maxRecDepth 100000
open Go.RowKit

/-- What Make has made of a token behind j rounds. -/
def mkN (t : Tok) (out : List UInt8) (j : Nat) : List UInt8 := if t.dist = 0 then out ++ List.replicate j (UInt8.ofNat t.byte.toNat) else Tok.copyN j t.dist.toNat out
theorem mkN_zero (t : Tok) (out : List UInt8) : mkN t out 0 = out := by unfold mkN; split <;> simp [Tok.copyN]
theorem mkN_length (t : Tok) (out : List UInt8) (j : Nat) : (mkN t out j).length = out.length + j := by
  unfold mkN; split
  · simp
  · rw [Tok.copyN_length]
theorem mkN_lit (t : Tok) (out : List UInt8) (j : Nat) (h : t.dist = 0) : mkN t out (j + 1) = mkN t out j ++ [UInt8.ofNat t.byte.toNat] := by
  simp only [mkN, if_pos h, List.replicate_succ', List.append_assoc]
theorem mkN_copy (t : Tok) (out : List UInt8) (j : Nat) (h : ¬ t.dist = 0) : mkN t out (j + 1) = mkN t out j ++ [(mkN t out j).getD ((mkN t out j).length - t.dist.toNat) 0] := by
  simp only [mkN, if_neg h]; exact Tok.copyN_succ _ _ _
theorem mkN_step (t : Tok) (out : List UInt8) (h : t.formB = true) : mkN t out t.len.toNat = Tok.step out t := by
  rw [Tok.form_iff] at h
  unfold mkN Tok.step
  split
  · have : t.len.toNat = 1 := by omega
    rw [this]; rfl
  · rfl
end Go.Proofs.YtnpnaglgllcpfaaGreat
