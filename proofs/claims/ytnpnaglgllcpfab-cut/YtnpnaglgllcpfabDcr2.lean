/-
  What the program's Decoder answers: Feed.
-/
import Derived.Test.YtnpnaglgllcpfabDcr
namespace Go.Proofs.Ytnpnaglgllcpfab
set_option maxRecDepth 100000
open Go.RowKit

/-- What is read of some bytes: the frames, how it stops. -/
def Told (l : List UInt8) (fs : List (List Tok × List UInt8)) (e : Int) : Prop := ∃ st R, Runs 0 (bitsIn l) fs st R ∧ Stops st R e
theorem Told.read {l : List UInt8} {fs : List (List Tok × List UInt8)} {e : Int} (h : Told l fs e) (hl : l.length ≤ 4096) : ∃ ends, rRead l = (e, psOf fs, dataOf fs, ends) := by
  obtain ⟨st, R, h1, h2⟩ := h
  exact h1.read h2 hl
/-- The Decoder in block q took the bytes all, gave the frames fs; so it would stop; its rest is the slice v. -/
def DecAt (w : World) (q : Nat) (v : Value) (all : List UInt8) (fs : List (List Tok × List UInt8)) (e : Int) : Prop :=
  ∃ (st : Nat) (rest : List UInt8), DecBox w q true 0 all.length st v ∧ OwnB w 0 v rest ∧ Runs 0 (bitsIn all) fs st (bitsIn rest) ∧ Stops st (bitsIn rest) e ∧ (e = 0 ∨ e = 4) ∧ st ≤ 3 ∧ all.length ≤ 4096 ∧ rest.length ≤ all.length
theorem DecAt.told {w : World} {q : Nat} {v : Value} {all : List UInt8} {fs : List (List Tok × List UInt8)} {e : Int} (h : DecAt w q v all fs e) : Told all fs e := by
  obtain ⟨st, rest, _, _, h1, h2, _⟩ := h
  exact ⟨st, _, h1, h2⟩
theorem DecAt.lt {w : World} {q : Nat} {v : Value} {all : List UInt8} {fs : List (List Tok × List UInt8)} {e : Int} (h : DecAt w q v all fs e) : q < w.heap.size := by
  obtain ⟨st, rest, h1, _⟩ := h
  exact (Array.getElem?_eq_some_iff.1 h1).1
theorem DecAt.new {w : World} {q : Nat} (h : DecBox w q true 0 0 0 (.slice none 0 0)) : DecAt w q (.slice none 0 0) [] [] 4 :=
  ⟨0, [], h, World.ownsRow_nil _ _ _ _, Runs.stay _ _, .inr ⟨by decide, by simp [part, rMagic, bitsIn]⟩, .inr rfl, by omega, by simp, by simp⟩
/-- The Decoder is as it was where its block and its rest's are. -/
theorem DecAt.kept {w w' : World} {q : Nat} {v : Value} {all : List UInt8} {fs : List (List Tok × List UInt8)} {e : Int} {row : Option Nat} (h : DecAt w q v all fs e) (hg : w.grownBy w' row) (hq : row ≠ some q) (hv : v.ownBlock = none ∨ v.ownBlock ≠ row) : DecAt w' q v all fs e := by
  obtain ⟨st, rest, h1, h2, r⟩ := h
  refine ⟨st, rest, ?_, World.ownsRow.kept h2 hg hv, r⟩
  show w'.heap[q]? = _
  rw [hg.block q (Array.getElem?_eq_some_iff.1 h1).1 (fun e => hq e.symm)]; exact h1
theorem bitsIn_drop : ∀ (m : Nat) (l : List UInt8), bitsIn (l.drop m) = (bitsIn l).drop (8 * m)
  | 0, l => rfl
  | m + 1, [] => by simp [bitsIn]
  | m + 1, b :: l => by
    have e : bitsIn (b :: l) = bin b.toNat 8 ++ bitsIn l := by simp [bitsIn]
    rw [List.drop_succ_cons, bitsIn_drop m l, e, show 8 * (m + 1) = (bin b.toNat 8).length + 8 * m by rw [bin_length]; omega, ← List.drop_drop, List.drop_left]

theorem BytesAt.behind {w : World} {b off : Nat} {l : List UInt8} (h : ∀ i, i < l.length → w.cell? ⟨b, off + i, none⟩ = some (.int .u8 (l.getD i 0).toNat)) (k : Nat) : BytesAt w (some ⟨b, off + k, none⟩) (l.drop k) := by
  refine .inr ⟨b, off + k, rfl, fun i hi => ?_⟩
  rw [List.length_drop] at hi
  have := h (k + i) (by omega)
  rw [show off + k + i = off + (k + i) by omega, this]
  simp [List.getD]
/-- How Feed of an open Decoder ends. -/
def FeedAns (w w' : World) (q : Nat) (all p : List UInt8) (fs : List (List Tok × List UInt8)) (r : Ending) : Prop :=
  OneKept w w' q ∧ ∃ fs' e' vy, Told (all ++ p) (fs ++ fs') e' ∧ OwnB w' w.heap.size vy (dataOf fs') ∧
    (((e' = 0 ∨ e' = 4) ∧ r = .returned (.tuple #[vy, .int .i64 0]) ∧ ∃ v', DecAt w' q v' (all ++ p) (fs ++ fs') e' ∧ (∀ k, v'.ownBlock = some k → w.heap.size ≤ k ∧ vy.ownBlock ≠ some k)) ∨
     (e' ≠ 0 ∧ e' ≠ 4 ∧ r = .returned (.tuple #[vy, .int .i64 e']) ∧ DecBox w' q true e' 0 0 (.slice none 0 0)))

/-- How Feed ends where nothing is wrong. -/
theorem feed_fin {w w3 w4 : World} {q : Nat} {all p S : List UInt8} {fs fs' : List (List Tok × List UInt8)} {e' n : Int} {st' m B2 : Nat} {x a b : Value} {yo no : Option Addr} {yc nc : Nat} {Y : List UInt8} (hq : q < w.heap.size) (hb3 : Below w.heap.size w w3) (hB2 : w.heap.size ≤ B2) (hbx : w3.heap[q]? = some (.cells #[.bool true, .int .i64 0, a, b, x] 108 (0, 0)))
    (hn : n = ((all ++ p).length : Int)) (hal : (all ++ p).length ≤ 4096) (hsl : S.length ≤ (all ++ p).length) (hrun : Runs 0 (bitsIn (all ++ p)) (fs ++ fs') st' (bitsIn (S.drop m))) (hstop : Stops st' (bitsIn (S.drop m)) e') (he : e' = 0 ∨ e' = 4) (hst : st' ≤ 3) (hy : OwnB w3 B2 (.slice yo Y.length yc) Y) (hY : dataOf fs' = Y)
    (hv : OwnB w4 ((w3.setCell ⟨q, 2, none⟩ (.int .i64 n)).setCell ⟨q, 3, none⟩ (.int .i64 st')).heap.size (.slice no (S.drop m).length nc) (S.drop m)) (hb4 : Below ((w3.setCell ⟨q, 2, none⟩ (.int .i64 n)).setCell ⟨q, 3, none⟩ (.int .i64 st')).heap.size ((w3.setCell ⟨q, 2, none⟩ (.int .i64 n)).setCell ⟨q, 3, none⟩ (.int .i64 st')) w4) :
    FeedAns w (w4.setCell ⟨q, 4, none⟩ (.slice no (S.drop m).length nc)) q all p fs (.returned (.tuple #[.slice yo Y.length yc, .int .i64 0])) := by
  have hsz : ((w3.setCell ⟨q, 2, none⟩ (.int .i64 n)).setCell ⟨q, 3, none⟩ (.int .i64 st')).heap.size = w3.heap.size := by rw [set_size, set_size]
  have hbx3 := set_block (i := 3) (set_block (i := 2) hbx (.int .i64 n)) (.int .i64 st')
  have hs3 := hb3.size
  have hk3 : OneKept w3 ((w3.setCell ⟨q, 2, none⟩ (.int .i64 n)).setCell ⟨q, 3, none⟩ (.int .i64 st')) q := ((OneKept.refl _ _).set _).set _
  have hk4 : OneKept w3 w4 q := hk3.trans (OneKept.ofBelow hb4)
  have hk5 : OneKept w3 (w4.setCell ⟨q, 4, none⟩ (.slice no (S.drop m).length nc)) q := hk4.set _
  rw [hsz] at hv
  have hvb : ∀ k, (Value.slice no (S.drop m).length nc).ownBlock = some k → w3.heap.size ≤ k := fun k hk => (World.ownsRow.lt hv k hk).1
  refine ⟨(OneKept.ofBelow hb3).trans hk5, fs', e', .slice yo Y.length yc, ⟨st', _, hrun, hstop⟩, ?_, .inl ⟨he, rfl, .slice no (S.drop m).length nc, ⟨st', S.drop m, ?_, ?_, hrun, hstop, he, hst, hal, ?_⟩, fun k hk => ⟨?_, fun e => ?_⟩⟩⟩
  · rw [hY]; exact row_le (row_one hy hk5 (by omega)) hB2
  · have h4 : w4.heap[q]? = _ := (hb4.block q (by rw [hsz]; omega)).trans hbx3
    have := set_block (i := 4) h4 (.slice no (S.drop m).length nc)
    rw [← hn]
    exact this
  · exact row_le (ownsRow_setCell_below hv (by show q < w3.heap.size; omega) _) (Nat.zero_le _)
  · rw [List.length_drop]; omega
  · have := hvb k hk; omega
  · have h1 := hvb k hk
    have h2 := (World.ownsRow.lt hy k e).2
    omega

set_option maxHeartbeats 4000000 in
theorem feed_calls (q : Nat) (v : Value) (all p : List UInt8) (fs : List (List Tok × List UInt8)) (e : Int) (pa : Option Addr) (pc : Nat) (w : World) (h : DecAt w q v all fs e) (hp : BytesAt w pa p) (hpc : pa = none → p.length = 0 ∧ pc = 0) (hl : all.length + p.length ≤ 4096) :
    Calls Try.prog 48 #[.pointer (some ⟨q, 0, none⟩), .slice pa p.length pc] w fun r w' => FeedAns w w' q all p fs r := by
  have hq := h.lt
  obtain ⟨st, rest, hbox, hrest, hrun, hstop, he, hst, hal, hrl⟩ := h
  obtain ⟨ro, rc, rfl⟩ := hrest.form
  obtain ⟨⟨c0, c1, c2, c3, c4⟩, f0, f1, f2, f3, f4⟩ := penta_cell hbox
  have HBOX : Hid (DecBox w q true 0 all.length st (.slice ro rest.length rc)) := hbox
  have HJ : Hid _ := joined_calls ro pa rest p rc pc w (OwnB.bytes hrest) hp (fun hn => by
    subst hn
    rcases hrest.2 with ⟨h1, h2⟩ | ⟨g, cap, cur, h1, _⟩
    · simp at h1; exact ⟨h2, h1.2⟩
    · simp at h1) hpc (by omega) (by omega)
  have HRUN : Hid (Runs 0 (bitsIn all) fs st (bitsIn rest)) := hrun
  have hlp : ¬ (4096 : Int) - (all.length : Int) < (p.length : Int) := by omega
  have HREST : Hid (OwnB w 0 (.slice ro rest.length rc) rest) := hrest
  clear hbox hrest hrun hstop he hp hpc
  go_enter Try.func48, Try.ntmps48
  go_wp2_with fail
  refine Calls.mono HJ.out ?_
  rintro r w1 ⟨vs, rfl, hvs, hb1⟩
  obtain ⟨so, sc, rfl⟩ := hvs.form
  have hSl : (rest ++ p).length ≤ 4096 := by rw [List.length_append]; omega
  have HRUN1 : Hid (Runs 0 (bitsIn (all ++ p)) fs st (bitsIn (rest ++ p))) := by
    show Runs _ _ _ _ _
    rw [bitsIn_append, bitsIn_append]
    exact HRUN.out.more _ (by rw [bitsIn_length]; omega)
  have HSL : Hid ((rest ++ p).length ≤ (all ++ p).length) := by show _ ≤ _; rw [List.length_append, List.length_append]; omega
  have HAL : Hid ((all ++ p).length = all.length + p.length) := List.length_append
  generalize rest ++ p = S at *
  have HS1 : Hid (OwnB w1 w.heap.size (.slice so S.length sc) S) := hvs
  have HB1 : Hid (Below w.heap.size w w1) := hb1
  have hs1 := hb1.size
  have HBOX1 : Hid (DecBox w1 q true 0 all.length st (.slice ro rest.length rc)) := by
    show w1.heap[q]? = _
    rw [hb1.block q hq]; exact HBOX.out
  obtain ⟨⟨c0, c1, c2, c3, c4⟩, f0, f1, f2, f3, f4⟩ := penta_cell HBOX1.out
  have HRO : Hid _ := readOn_calls so S sc st w1 hSl hst (OwnB.bytes hvs)
  clear hvs hb1 HJ
  go_wp2_with fail
  refine Calls.mono HRO.out ?_
  rintro r w2 ⟨hb2, fs', fo, fc, st', m, e', rfl, hfr, hfl, hdl, hm, hst', hrun', hstop'⟩
  have HB2 : Hid (Below w.heap.size w w2) := HB1.out.trans (hb2.mono hs1)
  have hs2 : w.heap.size ≤ w2.heap.size := by have := hb2.size; omega
  have HS2 : Hid (OwnB w2 w.heap.size (.slice so S.length sc) S) := HS1.out.below hb2
  have HBOX2 : Hid (DecBox w2 q true 0 all.length st (.slice ro rest.length rc)) := by
    show w2.heap[q]? = _
    rw [hb2.block q (by omega)]; exact HBOX1.out
  have HT : Hid (Runs 0 (bitsIn (all ++ p)) (fs ++ fs') st' (bitsIn (S.drop m))) := by
    show Runs _ _ _ _ _
    rw [bitsIn_drop]; exact HRUN1.out.trans hrun'
  have HST : Hid (Stops st' (bitsIn (S.drop m)) e') := by
    show Stops _ _ _
    rw [bitsIn_drop]; exact hstop'
  have HDT : Hid _ := dataOf_calls w1.heap.size fo fc fs' (w2.alloc (.cells #[.slice fo fs'.length fc, .int .i64 st', .int .i64 m] 94)) (hfr.below ((Below.refl _ _).alloc (Nat.le_refl _) _)) hfl hdl
  clear HRO hb2 hfr hrun' hstop' HRUN1 HRUN HB1 HS1
  go_wp2_with fail
  refine Calls.mono HDT.out ?_
  rintro r w3 ⟨vy, rfl, hvy, hb3⟩
  obtain ⟨yo, yc, rfl⟩ := hvy.form
  have hz3 : w2.heap.size + 1 ≤ w3.heap.size := by have := hb3.size; simpa using this
  have hb3' : Below w2.heap.size w2 w3 := ((Below.refl _ _).alloc (Nat.le_refl _) _).trans (hb3.mono (by simp))
  have HB3 : Hid (Below w.heap.size w w3) := HB2.out.trans (hb3'.mono hs2)
  have HY3 : Hid (OwnB w3 (w2.heap.size + 1) (.slice yo (dataOf fs').length yc) (dataOf fs')) := row_le hvy (by simp)
  have HS3 : Hid (OwnB w3 w.heap.size (.slice so S.length sc) S) := HS2.out.below hb3'
  have HSB : Hid (∀ k, (Value.slice so S.length sc).ownBlock = some k → k < w2.heap.size) := fun k hk => (World.ownsRow.lt HS2.out k hk).2
  have HBOX3 : Hid (DecBox w3 q true 0 all.length st (.slice ro rest.length rc)) := by
    show w3.heap[q]? = _
    rw [hb3'.block q (by omega)]; exact HBOX2.out
  have HGX : Hid (w3.heap[w2.heap.size]? = some (.cells #[.slice fo fs'.length fc, .int .i64 st', .int .i64 m] 94 (0, 0))) := by
    show _ = _
    rw [hb3.block _ (by simp)]; exact heap_alloc_new w2 _
  obtain ⟨⟨c0, c1, c2, c3, c4⟩, f0, f1, f2, f3, f4⟩ := penta_cell HBOX3.out
  obtain ⟨⟨g0, g1, g2⟩, _⟩ := trio_cell HGX.out
  clear HDT hvy hb3 hb3' HBOX2 HS2 HB2
  generalize hYD : dataOf fs' = Y at *
  have HYD : Hid (dataOf fs' = Y) := hYD
  clear hYD hdl
  by_cases he : e' = 0 ∨ e' = 4
  · have heb : ((e' != 0) && (e' != 4)) = false := by rcases he with rfl | rfl <;> rfl
    have HE : Hid (e' = 0 ∨ e' = 4) := he
    have hap : wrap64 ((all.length : Int) + (p.length : Int)) = ((all ++ p).length : Int) := by rw [HAL.out]; exact IntWalk.wrap64_in _ ⟨by omega, by omega⟩
    have hD : (S.drop m).length = S.length - m := List.length_drop
    have HSB3 : Hid (∀ k, (Value.slice so S.length sc).ownBlock = some k → w.heap.size ≤ k) := fun k hk => (World.ownsRow.lt HS3.out k hk).1
    have HS4 : Hid (OwnB ((w3.setCell ⟨q, 2, none⟩ (.int .i64 ((all.length : Int) + (p.length : Int)))).setCell ⟨q, 3, none⟩ (.int .i64 st')) w.heap.size (.slice so S.length sc) S) := ownsRow_setCell_below (ownsRow_setCell_below HS3.out (by exact hq) _) (by exact hq) _
    have HJ2 : Hid (∀ ta tc, BytesAt ((w3.setCell ⟨q, 2, none⟩ (.int .i64 ((all.length : Int) + (p.length : Int)))).setCell ⟨q, 3, none⟩ (.int .i64 st')) ta (S.drop m) → (ta = none → S.length - m = 0 ∧ tc = 0) → Calls Try.prog 64 #[.slice none 0 0, .slice ta (S.length - m) tc] ((w3.setCell ⟨q, 2, none⟩ (.int .i64 ((all.length : Int) + (p.length : Int)))).setCell ⟨q, 3, none⟩ (.int .i64 st')) fun e w' => ∃ v, e = .returned v ∧ OwnB w' ((w3.setCell ⟨q, 2, none⟩ (.int .i64 ((all.length : Int) + (p.length : Int)))).setCell ⟨q, 3, none⟩ (.int .i64 st')).heap.size v (S.drop m) ∧ Below ((w3.setCell ⟨q, 2, none⟩ (.int .i64 ((all.length : Int) + (p.length : Int)))).setCell ⟨q, 3, none⟩ (.int .i64 st')).heap.size ((w3.setCell ⟨q, 2, none⟩ (.int .i64 ((all.length : Int) + (p.length : Int)))).setCell ⟨q, 3, none⟩ (.int .i64 st')) w') := fun ta tc h1 h2 => by
      have := joined_calls none ta [] (S.drop m) 0 tc ((w3.setCell ⟨q, 2, none⟩ (.int .i64 ((all.length : Int) + (p.length : Int)))).setCell ⟨q, 3, none⟩ (.int .i64 st')) (.inl rfl) h1 (fun _ => ⟨rfl, rfl⟩) (by rw [hD]; exact h2) (by simp) (by rw [hD]; omega)
      rw [hD] at this
      exact this
    have HFIN : Hid (∀ w4 no nc, OwnB w4 ((w3.setCell ⟨q, 2, none⟩ (.int .i64 ((all.length : Int) + (p.length : Int)))).setCell ⟨q, 3, none⟩ (.int .i64 st')).heap.size (.slice no (S.drop m).length nc) (S.drop m) → Below ((w3.setCell ⟨q, 2, none⟩ (.int .i64 ((all.length : Int) + (p.length : Int)))).setCell ⟨q, 3, none⟩ (.int .i64 st')).heap.size ((w3.setCell ⟨q, 2, none⟩ (.int .i64 ((all.length : Int) + (p.length : Int)))).setCell ⟨q, 3, none⟩ (.int .i64 st')) w4 → FeedAns w (w4.setCell ⟨q, 4, none⟩ (.slice no (S.drop m).length nc)) q all p fs (.returned (.tuple #[.slice yo Y.length yc, .int .i64 0]))) := fun w4 no nc h1 h2 =>
      feed_fin hq HB3.out (by omega) HBOX3.out (by rw [HAL.out]; omega) (by rw [HAL.out]; omega) HSL.out HT.out HST.out HE.out hst' HY3.out HYD.out h1 h2
    have HBX : Hid (∀ w4, Below ((w3.setCell ⟨q, 2, none⟩ (.int .i64 ((all.length : Int) + (p.length : Int)))).setCell ⟨q, 3, none⟩ (.int .i64 st')).heap.size ((w3.setCell ⟨q, 2, none⟩ (.int .i64 ((all.length : Int) + (p.length : Int)))).setCell ⟨q, 3, none⟩ (.int .i64 st')) w4 → w4.cell? ⟨q, 4, none⟩ = some (.slice ro rest.length rc) ∧ w4.frozen? ⟨q, 4, none⟩ = false) := fun w4 h => by
      have h0 := set_block (i := 3) (set_block (i := 2) HBOX3.out (.int .i64 ((all.length : Int) + (p.length : Int)))) (.int .i64 st')
      have hx : w4.heap[q]? = _ := (h.block q (by rw [set_size, set_size]; omega)).trans h0
      have := penta_cell (a := .bool true) (b := .int .i64 0) (c := .int .i64 ((all.length : Int) + (p.length : Int))) (d := .int .i64 st') (e := .slice ro rest.length rc) hx
      exact ⟨this.1.2.2.2.2, this.2.2.2.2.2⟩
    have hsf := HS3.out.2
    have hq2 : q < w3.heap.size := by omega
    have hg2 : ¬ w2.heap.size = q := by omega
    clear hap heb HSB3
    rcases hsf with ⟨h1, h2⟩ | ⟨g, cap, cur, h1, hgB, hgx, hgl, hgm, _⟩
    · obtain rfl : S = [] := List.eq_nil_of_length_eq_zero h2
      simp at h1
      obtain ⟨rfl, rfl⟩ := h1
      obtain rfl : m = 0 := by simp at hm; exact hm
      have HJ3 : Hid _ := HJ2.out none 0 (.inl rfl) (fun _ => ⟨rfl, rfl⟩)
      clear HJ2
      rcases he with rfl | rfl
      all_goals
        go_wp2_with fail
        refine Calls.mono HJ3.out ?_
        rintro r w4 ⟨v', rfl, hv', hb4⟩
        obtain ⟨no, nc, rfl⟩ := hv'.form
        have HFF : Hid _ := HFIN.out w4 no nc hv' hb4
        obtain ⟨k4, j4⟩ := HBX.out w4 hb4
        clear hv' hb4
        go_wp2
        go_ret2
        exact HFF.out
    · simp at h1
      obtain ⟨rfl, rfl⟩ := h1
      have hcell : ∀ i, i < S.length → ((w3.setCell ⟨q, 2, none⟩ (.int .i64 ((all.length : Int) + (p.length : Int)))).setCell ⟨q, 3, none⟩ (.int .i64 st')).cell? ⟨g, 0 + i, none⟩ = some (.int .u8 (S.getD i 0).toNat) := fun i hi => by
        obtain ⟨g', c', h1, _, _, h2⟩ := HS4.out.at (by omega)
        simp at h1
        rw [Nat.zero_add, h1.1]; exact h2 i hi
      have hpt := BytesAt.behind hcell m
      rw [Nat.zero_add] at hpt
      have HFIN2 : Hid (∀ w4 no nc, OwnB w4 ((w3.setCell ⟨q, 2, none⟩ (.int .i64 ((all.length : Int) + (p.length : Int)))).setCell ⟨q, 3, none⟩ (.int .i64 st')).heap.size (.slice no (S.drop m).length nc) (S.drop m) → Below ((w3.setCell ⟨q, 2, none⟩ (.int .i64 ((all.length : Int) + (p.length : Int)))).setCell ⟨q, 3, none⟩ (.int .i64 st')).heap.size ((w3.setCell ⟨q, 2, none⟩ (.int .i64 ((all.length : Int) + (p.length : Int)))).setCell ⟨q, 3, none⟩ (.int .i64 st')) w4 → FeedAns w (w4.setCell ⟨q, 4, none⟩ (.slice no (S.length - m) nc)) q all p fs (.returned (.tuple #[.slice yo Y.length yc, .int .i64 0]))) := fun w4 no nc h1 h2 => by
        have := HFIN.out w4 no nc h1 h2
        rw [hD] at this
        exact this
      have HD : Hid ((S.drop m).length = S.length - m) := hD
      clear hD HFIN
      by_cases hcm : sc = m
      · have hm0 : S.length - m = 0 := by omega
        have HJ3 : Hid _ := HJ2.out (some ⟨g, 0, none⟩) 0 (.inl (List.eq_nil_of_length_eq_zero (by rw [HD.out]; exact hm0))) (fun h => by cases h)
        rw [hm0] at HJ3
        have hb1 : (0 : Int) ≤ (m : Int) ∧ (m : Int) ≤ (S.length : Int) ∧ (S.length : Int) ≤ (sc : Int) := by omega
        rw [hm0] at HFIN2
        rw [hm0] at HD
        clear HJ2 hpt hcell
        rcases he with rfl | rfl
        all_goals
          go_wp2_with fail
          refine Calls.mono HJ3.out ?_
          rintro r w4 ⟨v', rfl, hv', hb4⟩
          obtain ⟨no, nc, rfl⟩ := hv'.form
          have HFF : Hid _ := HFIN2.out w4 no nc hv' hb4
          obtain ⟨k4, j4⟩ := HBX.out w4 hb4
          clear hv' hb4
          rw [HD.out]
          go_wp2
          go_ret2
          exact HFF.out
      · have HJ3 : Hid _ := HJ2.out (some ⟨g, m, none⟩) (sc - m) hpt (fun h => by cases h)
        have hb1 : (0 : Int) ≤ (m : Int) ∧ (m : Int) ≤ (S.length : Int) ∧ (S.length : Int) ≤ (sc : Int) := by omega
        clear HJ2 hpt hcell
        rcases he with rfl | rfl
        all_goals
          go_wp2_with fail
          refine Calls.mono HJ3.out ?_
          rintro r w4 ⟨v', rfl, hv', hb4⟩
          obtain ⟨no, nc, rfl⟩ := hv'.form
          have HFF : Hid _ := HFIN2.out w4 no nc hv' hb4
          obtain ⟨k4, j4⟩ := HBX.out w4 hb4
          clear hv' hb4
          rw [HD.out]
          go_wp2
          go_ret2
          exact HFF.out
  · have he0 : (e' != 0) = true := by simp; omega
    have he4 : (e' != 4) = true := by simp; omega
    have HE : Hid (e' ≠ 0 ∧ e' ≠ 4) := ⟨fun h => he (.inl h), fun h => he (.inr h)⟩
    have HFL : Hid _ := fail_calls q 0 all.length st e' true ro rest.length rc w3 HBOX3.out
    clear he
    go_wp2_with fail
    refine Calls.mono HFL.out ?_
    rintro r w4 ⟨rfl, hbx4, hk4⟩
    have HBX4 : Hid _ := hbx4
    have HK4 : Hid (OneKept w w4 q) := (OneKept.ofBelow HB3.out).trans hk4
    have HY4 : Hid (OwnB w4 w.heap.size (.slice yo Y.length yc) Y) := row_le (row_one HY3.out hk4 (by omega)) (by omega)
    clear hbx4 hk4 HFL
    go_wp2
    go_ret2
    exact ⟨HK4.out, fs', e', _, ⟨st', _, HT.out, HST.out⟩, by rw [HYD.out]; exact HY4.out, .inr ⟨HE.out.1, HE.out.2, rfl, HBX4.out⟩⟩
end Go.Proofs.Ytnpnaglgllcpfab
