/-
  What the program's reader of tokens does to memory: one token.
-/
import Derived.Test.YtnpnaglgllcpfabSb2
namespace Go.Proofs.Ytnpnaglgllcpfab
set_option maxRecDepth 100000
open Go.RowKit

/-- How a reader of one token ends, whatever it was to read. -/
def TokRAns (w w' : World) (q : Nat) (a : Option Addr) (l : List UInt8) (cap n : Nat) (x : Except Int (Tok × List Bool)) (r : Ending) : Prop :=
  OneKept w w' q ∧ ((∃ c m, x = .error c ∧ c ≠ 0 ∧ m ≤ (bitsIn l).length ∧ r = .returned (.tuple #[.agg #[.int .i64 0, .int .i64 0, .int .i64 0], .int .i64 c]) ∧ RdrAt w' q a l cap m) ∨
    ∃ (t : Tok) (m : Nat), x = .ok (t, (bitsIn l).drop m) ∧ n < m ∧ m ≤ (bitsIn l).length ∧ r = .returned (.tuple #[.agg #[.int .i64 t.len, .int .i64 t.dist, .int .i64 t.byte], .int .i64 0]) ∧ RdrAt w' q a l cap m)

/-- What a box for a struct result holds at the end, and what was there. -/
theorem boxR_fin {w w3 : World} {q : Nat} {o : Obj} {u v b : Value} {t : TypeId} {a : Option Addr} {l : List UInt8} {cap n m : Nat} (h0 : RdrAt w q a l cap n) (hk : OneKept (w.alloc o) w3 q) (hx : w3.heap[w.heap.size]? = some (.cells #[u, v, b] t (0, 0))) (h3 : RdrAt w3 q a l cap m) (x y z : Value) :
    ((((w3.setCell ⟨w.heap.size, 0, none⟩ x).setCell ⟨w.heap.size, 1, none⟩ y).setCell ⟨w.heap.size, 2, none⟩ z).cell? ⟨w.heap.size, 0, none⟩ = some x ∧
     (((w3.setCell ⟨w.heap.size, 0, none⟩ x).setCell ⟨w.heap.size, 1, none⟩ y).setCell ⟨w.heap.size, 2, none⟩ z).cell? ⟨w.heap.size, 1, none⟩ = some y ∧
     (((w3.setCell ⟨w.heap.size, 0, none⟩ x).setCell ⟨w.heap.size, 1, none⟩ y).setCell ⟨w.heap.size, 2, none⟩ z).cell? ⟨w.heap.size, 2, none⟩ = some z) ∧
    OneKept w (((w3.setCell ⟨w.heap.size, 0, none⟩ x).setCell ⟨w.heap.size, 1, none⟩ y).setCell ⟨w.heap.size, 2, none⟩ z) q ∧
    RdrAt (((w3.setCell ⟨w.heap.size, 0, none⟩ x).setCell ⟨w.heap.size, 1, none⟩ y).setCell ⟨w.heap.size, 2, none⟩ z) q a l cap m := by
  have hb := set_block (i := 2) (set_block (i := 1) (set_block (i := 0) hx x) y) z
  have hq := h0.lt
  have hkk : OneKept w (((w3.setCell ⟨w.heap.size, 0, none⟩ x).setCell ⟨w.heap.size, 1, none⟩ y).setCell ⟨w.heap.size, 2, none⟩ z) q := by
    refine ⟨hk.os, hk.tape, hk.output, ?_, fun k h1 h2 => ?_⟩
    · have := hk.size
      simp only [set_size]
      simp at this
      omega
    · rw [set_other _ (by omega), set_other _ (by omega), set_other _ (by omega), hk.heap k (by simp; omega) h2]
      exact Below.heap_alloc w o k h1
  refine ⟨?_, hkk, h0.kept hkk ?_⟩
  · simp [World.cell?, hb]
  · rw [set_other _ (by omega), set_other _ (by omega), set_other _ (by omega)]
    exact h3.block

set_option maxHeartbeats 1000000 in
theorem readLiteral_calls (q : Nat) (a : Option Addr) (l : List UInt8) (cap n : Nat) (w : World) (X : Except Int (Tok × List Bool)) (h : RdrAt w q a l cap n) (hl : l.length ≤ 4096) (hn : n ≤ (bitsIn l).length)
    (hX1 : (bitsIn l).length < n + 8 → X = .error 4) (hX2 : n + 8 ≤ (bitsIn l).length → X = .ok (⟨1, 0, valB (((bitsIn l).drop n).take 8)⟩, (bitsIn l).drop (n + 8))) :
    Calls Try.prog 90 #[.pointer (some ⟨q, 0, none⟩)] w fun r w' => TokRAns w w' q a l cap n X r := by
  have HX1 : Hid _ := hX1
  have HX2 : Hid _ := hX2
  clear hX1 hX2
  have HR0 : Hid (RdrAt w q a l cap n) := h
  have hq := h.lt
  have hqn : w.heap.size ≠ q := by omega
  have HR : Hid (RdrAt (w.alloc (.cells #[.int .i64 0, .int .i64 0, .int .i64 0] 60)) q a l cap n) := h.below ((Below.refl _ _).alloc (Nat.le_refl _) _)
  clear h
  go_enter Try.func90, Try.ntmps90
  go_wp2_with fail
  refine (byteR_calls q a l cap n _ HR.out hl hn).mono ?_
  rintro r w1 ⟨ho, ⟨h1, rfl, m, hm, hr1⟩ | ⟨h1, rfl, hr1⟩⟩
  · have HX : Hid (X = .error 4) := HX1.out h1
    clear HX1 HX2
    have HO : Hid (OneKept _ w1 q) := ho
    have HR1 : Hid (RdrAt w1 q a l cap m) := hr1
    clear ho hr1
    have HX1 := tok_box HO.out hqn
    obtain ⟨⟨b0, b1, b2⟩, g0, g1, g2⟩ := trio_cell HX1
    have hzz : w.heap.size < w1.heap.size := (Array.getElem?_eq_some_iff.1 HX1).1
    obtain ⟨r0, r1, r2⟩ := boxR_fin HR0.out HO.out HX1 HR1.out (.int .i64 0) (.int .i64 0) (.int .i64 0)
    have R0 : Hid _ := r0
    have R1 : Hid (OneKept _ _ _) := r1
    have R2 : Hid (RdrAt _ _ _ _ _ _) := r2
    clear HX1 r0 r1 r2
    go_wp2
    obtain ⟨r0, r1, r2⟩ := R0.out
    refine bodyPost_ret (v := .tuple #[.agg #[.int .i64 0, .int .i64 0, .int .i64 0], .int .i64 4]) (by simp [results, Try.results90, go_sem, r0, r1, r2]) rfl ⟨R1.out, .inl ⟨4, m, HX.out, by decide, hm, rfl, R2.out⟩⟩
  · have HX : Hid (X = .ok (⟨1, 0, valB (((bitsIn l).drop n).take 8)⟩, (bitsIn l).drop (n + 8))) := HX2.out h1
    clear HX1 HX2
    have HO : Hid (OneKept _ w1 q) := ho
    have HR1 : Hid (RdrAt w1 q a l cap (n + 8)) := hr1
    clear ho hr1
    rw [digB_zero]
    generalize valB (((bitsIn l).drop n).take 8) = y at *
    have HX1 := tok_box HO.out hqn
    obtain ⟨⟨b0, b1, b2⟩, g0, g1, g2⟩ := trio_cell HX1
    have hzz : w.heap.size < w1.heap.size := (Array.getElem?_eq_some_iff.1 HX1).1
    obtain ⟨r0, r1, r2⟩ := boxR_fin HR0.out HO.out HX1 HR1.out (.int .i64 1) (.int .i64 0) (.int .i64 y)
    have R0 : Hid _ := r0
    have R1 : Hid (OneKept _ _ _) := r1
    have R2 : Hid (RdrAt _ _ _ _ _ _) := r2
    clear HX1 r0 r1 r2
    go_wp2
    obtain ⟨r0, r1, r2⟩ := R0.out
    refine bodyPost_ret (v := .tuple #[.agg #[.int .i64 1, .int .i64 0, .int .i64 y], .int .i64 0]) (by simp [results, Try.results90, go_sem, r0, r1, r2]) rfl ⟨R1.out, .inr ⟨⟨1, 0, y⟩, n + 8, HX.out, by omega, by omega, rfl, R2.out⟩⟩

/-- A copy off some bits, so much being made, so much left. -/
def rCopy (made left : Nat) (R : List Bool) : Except Int (Tok × List Bool) :=
  match rNum 6 0 R with
  | .error c => .error c
  | .ok (n, R1) =>
    if left < n + 1 then .error 6
    else match rNum 6 0 R1 with
      | .error c => .error c
      | .ok (d, R2) => if 32 < d ∨ made < d then .error 6 else .ok (⟨n + 1, d, 0⟩, R2)
theorem rTok_copy (made left : Nat) (R : List Bool) : rTok made left (true :: R) = rCopy made left R := rfl

set_option maxHeartbeats 1000000 in
theorem readCopy_calls (q : Nat) (a : Option Addr) (l : List UInt8) (cap n made left : Nat) (w : World) (X : Except Int (Tok × List Bool)) (h : RdrAt w q a l cap n) (hl : l.length ≤ 4096) (hn : n ≤ (bitsIn l).length) (hX : X = rCopy made left ((bitsIn l).drop n)) :
    Calls Try.prog 91 #[.pointer (some ⟨q, 0, none⟩), .int .i64 made, .int .i64 left] w fun r w' => TokRAns w w' q a l cap n X r := by
  have HX : Hid _ := hX
  clear hX
  have HR0 : Hid (RdrAt w q a l cap n) := h
  have hq := h.lt
  have hqn : w.heap.size ≠ q := by omega
  have HR : Hid (RdrAt (w.alloc (.cells #[.int .i64 0, .int .i64 0, .int .i64 0] 60)) q a l cap n) := h.below ((Below.refl _ _).alloc (Nat.le_refl _) _)
  clear h
  go_enter Try.func91, Try.ntmps91
  go_wp2_with fail
  refine (numberR_calls q a l cap n 6 _ HR.out hl hn (by decide)).mono ?_
  rintro r w1 ⟨ho, ⟨c, m, hnum, hc, hm, rfl, hr1⟩ | ⟨v, m, hnum, hm1, hm2, hv1, hv2, rfl, hr1⟩⟩
  · have HE : Hid (X = .error c) := by show _ = _; rw [HX.out, rCopy, hnum]
    have HO : Hid (OneKept _ w1 q) := ho
    have HR1 : Hid (RdrAt w1 q a l cap m) := hr1
    have HC : Hid (c ≠ 0) := hc
    have hcb : (c != 0) = true := by simpa using hc
    clear ho hr1 hnum hc
    have HX1 := tok_box HO.out hqn
    obtain ⟨⟨b0, b1, b2⟩, g0, g1, g2⟩ := trio_cell HX1
    have hzz : w.heap.size < w1.heap.size := (Array.getElem?_eq_some_iff.1 HX1).1
    obtain ⟨r0, r1, r2⟩ := boxR_fin HR0.out HO.out HX1 HR1.out (.int .i64 0) (.int .i64 0) (.int .i64 0)
    have R0 : Hid _ := r0
    have R1 : Hid (OneKept _ _ _) := r1
    have R2 : Hid (RdrAt _ _ _ _ _ _) := r2
    clear HX1 r0 r1 r2
    go_wp2
    obtain ⟨r0, r1, r2⟩ := R0.out
    refine bodyPost_ret (v := .tuple #[.agg #[.int .i64 0, .int .i64 0, .int .i64 0], .int .i64 c]) (by simp [results, Try.results91, go_sem, r0, r1, r2]) rfl ⟨R1.out, .inl ⟨c, m, HE.out, HC.out, hm, rfl, R2.out⟩⟩
  · have HO : Hid (OneKept _ w1 q) := ho
    have HR1 : Hid (RdrAt w1 q a l cap m) := hr1
    have HN1 : Hid (rNum 6 0 ((bitsIn l).drop n) = .ok (v, (bitsIn l).drop m)) := hnum
    clear ho hr1 hnum
    by_cases hbig : left < v + 1
    · have HE : Hid (X = .error 6) := by show _ = _; rw [HX.out, rCopy, HN1.out]; exact if_pos hbig
      have HX1 := tok_box HO.out hqn
      obtain ⟨⟨b0, b1, b2⟩, g0, g1, g2⟩ := trio_cell HX1
      have hzz : w.heap.size < w1.heap.size := (Array.getElem?_eq_some_iff.1 HX1).1
      obtain ⟨r0, r1, r2⟩ := boxR_fin HR0.out HO.out HX1 HR1.out (.int .i64 0) (.int .i64 0) (.int .i64 0)
      have R0 : Hid _ := r0
      have R1 : Hid (OneKept _ _ _) := r1
      have R2 : Hid (RdrAt _ _ _ _ _ _) := r2
      clear HX1 r0 r1 r2
      go_wp2
      obtain ⟨r0, r1, r2⟩ := R0.out
      refine bodyPost_ret (v := .tuple #[.agg #[.int .i64 0, .int .i64 0, .int .i64 0], .int .i64 6]) (by simp [results, Try.results91, go_sem, r0, r1, r2]) rfl ⟨R1.out, .inl ⟨6, m, HE.out, by decide, hm2, rfl, R2.out⟩⟩
    · go_wp2_with fail
      refine (numberR_calls q a l cap m 6 _ HR1.out hl hm2 (by decide)).mono ?_
      rintro r w2 ⟨ho2, ⟨c, m', hnum, hc, hm', rfl, hr2⟩ | ⟨d, m', hnum, hm3, hm4, hd1, hd2, rfl, hr2⟩⟩
      · have HE : Hid (X = .error c) := by
          show _ = _
          rw [HX.out, rCopy, HN1.out]
          refine (if_neg hbig).trans ?_
          rw [hnum]
        have HO2 : Hid (OneKept _ w2 q) := HO.out.trans ho2
        have HR2 : Hid (RdrAt w2 q a l cap m') := hr2
        have HC : Hid (c ≠ 0) := hc
        have hcb : (c != 0) = true := by simpa using hc
        clear ho2 hr2 hnum hc
        have HX1 := tok_box HO2.out hqn
        obtain ⟨⟨b0, b1, b2⟩, g0, g1, g2⟩ := trio_cell HX1
        have hzz : w.heap.size < w2.heap.size := (Array.getElem?_eq_some_iff.1 HX1).1
        obtain ⟨r0, r1, r2⟩ := boxR_fin HR0.out HO2.out HX1 HR2.out (.int .i64 0) (.int .i64 0) (.int .i64 0)
        have R0 : Hid _ := r0
        have R1 : Hid (OneKept _ _ _) := r1
        have R2 : Hid (RdrAt _ _ _ _ _ _) := r2
        clear HX1 r0 r1 r2
        go_wp2
        obtain ⟨r0, r1, r2⟩ := R0.out
        refine bodyPost_ret (v := .tuple #[.agg #[.int .i64 0, .int .i64 0, .int .i64 0], .int .i64 c]) (by simp [results, Try.results91, go_sem, r0, r1, r2]) rfl ⟨R1.out, .inl ⟨c, m', HE.out, HC.out, hm', rfl, R2.out⟩⟩
      · have HO2 : Hid (OneKept _ w2 q) := HO.out.trans ho2
        have HR2 : Hid (RdrAt w2 q a l cap m') := hr2
        have HN2 : Hid (rNum 6 0 ((bitsIn l).drop m) = .ok (d, (bitsIn l).drop m')) := hnum
        clear ho2 hr2 hnum
        by_cases hfar : 32 < d ∨ made < d
        · have HE : Hid (X = .error 6) := by
            show _ = _
            rw [HX.out, rCopy, HN1.out]
            refine (if_neg hbig).trans ?_
            rw [HN2.out]
            exact if_pos hfar
          have HX1 := tok_box HO2.out hqn
          obtain ⟨⟨b0, b1, b2⟩, g0, g1, g2⟩ := trio_cell HX1
          have hzz : w.heap.size < w2.heap.size := (Array.getElem?_eq_some_iff.1 HX1).1
          by_cases h32 : 32 < d
          all_goals
            first | (have hmd : made < d := by omega) | skip
            clear hfar
            obtain ⟨r0, r1, r2⟩ := boxR_fin HR0.out HO2.out HX1 HR2.out (.int .i64 0) (.int .i64 0) (.int .i64 0)
            have R0 : Hid _ := r0
            have R1 : Hid (OneKept _ _ _) := r1
            have R2 : Hid (RdrAt _ _ _ _ _ _) := r2
            clear HX1 r0 r1 r2
            go_wp2
            obtain ⟨r0, r1, r2⟩ := R0.out
            refine bodyPost_ret (v := .tuple #[.agg #[.int .i64 0, .int .i64 0, .int .i64 0], .int .i64 6]) (by simp [results, Try.results91, go_sem, r0, r1, r2]) rfl ⟨R1.out, .inl ⟨6, m', HE.out, by decide, hm4, rfl, R2.out⟩⟩
        · have HE : Hid (X = .ok (⟨(v : Int) + 1, d, 0⟩, (bitsIn l).drop m')) := by
            show _ = _
            rw [HX.out, rCopy, HN1.out]
            refine (if_neg hbig).trans ?_
            rw [HN2.out]
            exact if_neg hfar
          have hd32 : ¬ 32 < (d : Int) := by omega
          have hdm : ¬ (made : Int) < (d : Int) := by omega
          clear hfar
          have HX1 := tok_box HO2.out hqn
          obtain ⟨⟨b0, b1, b2⟩, g0, g1, g2⟩ := trio_cell HX1
          have hzz : w.heap.size < w2.heap.size := (Array.getElem?_eq_some_iff.1 HX1).1
          obtain ⟨r0, r1, r2⟩ := boxR_fin HR0.out HO2.out HX1 HR2.out (.int .i64 ((v : Int) + 1)) (.int .i64 d) (.int .i64 0)
          have R0 : Hid _ := r0
          have R1 : Hid (OneKept _ _ _) := r1
          have R2 : Hid (RdrAt _ _ _ _ _ _) := r2
          clear HX1 r0 r1 r2
          go_wp2
          any_goals (exfalso; omega)
          obtain ⟨r0, r1, r2⟩ := R0.out
          refine bodyPost_ret (v := .tuple #[.agg #[.int .i64 ((v : Int) + 1), .int .i64 d, .int .i64 0], .int .i64 0]) (by simp [results, Try.results91, go_sem, r0, r1, r2]) rfl ⟨R1.out, .inr ⟨⟨(v : Int) + 1, d, 0⟩, m', HE.out, by omega, hm4, rfl, R2.out⟩⟩

set_option maxHeartbeats 1000000 in
theorem readOne_calls (q : Nat) (a : Option Addr) (l : List UInt8) (cap n made left : Nat) (w : World) (X : Except Int (Tok × List Bool)) (h : RdrAt w q a l cap n) (hl : l.length ≤ 4096) (hn : n ≤ (bitsIn l).length) (hX : X = rTok made left ((bitsIn l).drop n)) :
    Calls Try.prog 89 #[.pointer (some ⟨q, 0, none⟩), .int .i64 made, .int .i64 left] w fun r w' => TokRAns w w' q a l cap n X r := by
  have HX : Hid _ := hX
  have hlen := bitsIn_length l
  have HR0 : Hid (RdrAt w q a l cap n) := h
  have hq := h.lt
  have hqn : w.heap.size ≠ q := by omega
  have HR : Hid (RdrAt (w.alloc (.cells #[.int .i64 0, .int .i64 0, .int .i64 0] 60)) q a l cap n) := h.below ((Below.refl _ _).alloc (Nat.le_refl _) _)
  clear h hX
  rcases Nat.lt_or_ge n (bitsIn l).length with hlt | hge
  · have hdr : Hid ((bitsIn l).drop n = (bitsIn l)[n] :: (bitsIn l).drop (n + 1)) := drop_cons (bitsIn l) n hlt
    have HB : Hid _ := bitR_ok q a l cap n _ HR.out hl hlt
    cases hb : (bitsIn l)[n] with
    | false =>
      rw [hb] at hdr HB
      clear hb
      have HL1 : Hid ((bitsIn l).length < n + 1 + 8 → X = .error 4) := fun hs => by rw [HX.out, hdr.out]; exact if_pos (by rw [List.length_drop]; omega)
      have HL2 : Hid (n + 1 + 8 ≤ (bitsIn l).length → X = .ok (⟨1, 0, valB (((bitsIn l).drop (n + 1)).take 8)⟩, (bitsIn l).drop (n + 1 + 8))) := fun hs => by
        rw [HX.out, hdr.out]
        refine (if_neg (by rw [List.length_drop]; omega)).trans ?_
        rw [List.drop_drop]
      go_enter Try.func89, Try.ntmps89
      go_wp2_with fail
      refine (Calls.mono HB.out ?_)
      rintro r w1 ⟨rfl, hr1, ho1⟩
      have HO : Hid (OneKept _ w1 q) := ho1
      have HR1 : Hid (RdrAt w1 q a l cap (n + 1)) := hr1
      clear hr1 ho1 HB
      rw [show ((false.toNat : Nat) : Int) = 0 from rfl]
      go_wp2_with fail
      refine (readLiteral_calls q a l cap (n + 1) _ X HR1.out hl (by omega) HL1.out HL2.out).mono ?_
      rintro r w2 ⟨ho2, ⟨c, m', hx2, hc, hm', rfl, hr2⟩ | ⟨⟨tl, td, tb⟩, m', hx2, hm3, hm4, rfl, hr2⟩⟩
      · have HE : Hid (X = .error c) := hx2
        have HO2 : Hid (OneKept _ w2 q) := HO.out.trans ho2
        have HR2 : Hid (RdrAt w2 q a l cap m') := hr2
        have HC : Hid (c ≠ 0) := hc
        clear ho2 hr2 hx2 hc
        have HX1 := tok_box HO2.out hqn
        obtain ⟨⟨b0, b1, b2⟩, g0, g1, g2⟩ := trio_cell HX1
        have hzz : w.heap.size < w2.heap.size := (Array.getElem?_eq_some_iff.1 HX1).1
        obtain ⟨r0, r1, r2⟩ := boxR_fin HR0.out HO2.out HX1 HR2.out (.int .i64 0) (.int .i64 0) (.int .i64 0)
        have R0 : Hid _ := r0
        have R1 : Hid (OneKept _ _ _) := r1
        have R2 : Hid (RdrAt _ _ _ _ _ _) := r2
        clear HX1 r0 r1 r2
        go_wp2
        obtain ⟨r0, r1, r2⟩ := R0.out
        refine bodyPost_ret (v := .tuple #[.agg #[.int .i64 0, .int .i64 0, .int .i64 0], .int .i64 c]) (by simp [results, Try.results89, go_sem, r0, r1, r2]) rfl ⟨R1.out, .inl ⟨c, m', HE.out, HC.out, hm', rfl, R2.out⟩⟩
      · have HE : Hid (X = .ok (⟨tl, td, tb⟩, (bitsIn l).drop m')) := hx2
        have HO2 : Hid (OneKept _ w2 q) := HO.out.trans ho2
        have HR2 : Hid (RdrAt w2 q a l cap m') := hr2
        clear ho2 hr2 hx2
        have HX1 := tok_box HO2.out hqn
        obtain ⟨⟨b0, b1, b2⟩, g0, g1, g2⟩ := trio_cell HX1
        have hzz : w.heap.size < w2.heap.size := (Array.getElem?_eq_some_iff.1 HX1).1
        obtain ⟨r0, r1, r2⟩ := boxR_fin HR0.out HO2.out HX1 HR2.out (.int .i64 tl) (.int .i64 td) (.int .i64 tb)
        have R0 : Hid _ := r0
        have R1 : Hid (OneKept _ _ _) := r1
        have R2 : Hid (RdrAt _ _ _ _ _ _) := r2
        clear HX1 r0 r1 r2
        go_wp2
        obtain ⟨r0, r1, r2⟩ := R0.out
        refine bodyPost_ret (v := .tuple #[.agg #[.int .i64 tl, .int .i64 td, .int .i64 tb], .int .i64 0]) (by simp [results, Try.results89, go_sem, r0, r1, r2]) rfl ⟨R1.out, .inr ⟨⟨tl, td, tb⟩, m', HE.out, by omega, hm4, rfl, R2.out⟩⟩
    | true =>
      rw [hb] at hdr HB
      clear hb
      have HC1 : Hid (X = rCopy made left ((bitsIn l).drop (n + 1))) := by show _ = _; rw [HX.out, hdr.out, rTok_copy]
      go_enter Try.func89, Try.ntmps89
      go_wp2_with fail
      refine (Calls.mono HB.out ?_)
      rintro r w1 ⟨rfl, hr1, ho1⟩
      have HO : Hid (OneKept _ w1 q) := ho1
      have HR1 : Hid (RdrAt w1 q a l cap (n + 1)) := hr1
      clear hr1 ho1 HB
      rw [show ((true.toNat : Nat) : Int) = 1 from rfl]
      go_wp2_with fail
      refine (readCopy_calls q a l cap (n + 1) made left _ X HR1.out hl (by omega) HC1.out).mono ?_
      rintro r w2 ⟨ho2, ⟨c, m', hx2, hc, hm', rfl, hr2⟩ | ⟨⟨tl, td, tb⟩, m', hx2, hm3, hm4, rfl, hr2⟩⟩
      · have HE : Hid (X = .error c) := hx2
        have HO2 : Hid (OneKept _ w2 q) := HO.out.trans ho2
        have HR2 : Hid (RdrAt w2 q a l cap m') := hr2
        have HC : Hid (c ≠ 0) := hc
        clear ho2 hr2 hx2 hc
        have HX1 := tok_box HO2.out hqn
        obtain ⟨⟨b0, b1, b2⟩, g0, g1, g2⟩ := trio_cell HX1
        have hzz : w.heap.size < w2.heap.size := (Array.getElem?_eq_some_iff.1 HX1).1
        obtain ⟨r0, r1, r2⟩ := boxR_fin HR0.out HO2.out HX1 HR2.out (.int .i64 0) (.int .i64 0) (.int .i64 0)
        have R0 : Hid _ := r0
        have R1 : Hid (OneKept _ _ _) := r1
        have R2 : Hid (RdrAt _ _ _ _ _ _) := r2
        clear HX1 r0 r1 r2
        go_wp2
        obtain ⟨r0, r1, r2⟩ := R0.out
        refine bodyPost_ret (v := .tuple #[.agg #[.int .i64 0, .int .i64 0, .int .i64 0], .int .i64 c]) (by simp [results, Try.results89, go_sem, r0, r1, r2]) rfl ⟨R1.out, .inl ⟨c, m', HE.out, HC.out, hm', rfl, R2.out⟩⟩
      · have HE : Hid (X = .ok (⟨tl, td, tb⟩, (bitsIn l).drop m')) := hx2
        have HO2 : Hid (OneKept _ w2 q) := HO.out.trans ho2
        have HR2 : Hid (RdrAt w2 q a l cap m') := hr2
        clear ho2 hr2 hx2
        have HX1 := tok_box HO2.out hqn
        obtain ⟨⟨b0, b1, b2⟩, g0, g1, g2⟩ := trio_cell HX1
        have hzz : w.heap.size < w2.heap.size := (Array.getElem?_eq_some_iff.1 HX1).1
        obtain ⟨r0, r1, r2⟩ := boxR_fin HR0.out HO2.out HX1 HR2.out (.int .i64 tl) (.int .i64 td) (.int .i64 tb)
        have R0 : Hid _ := r0
        have R1 : Hid (OneKept _ _ _) := r1
        have R2 : Hid (RdrAt _ _ _ _ _ _) := r2
        clear HX1 r0 r1 r2
        go_wp2
        obtain ⟨r0, r1, r2⟩ := R0.out
        refine bodyPost_ret (v := .tuple #[.agg #[.int .i64 tl, .int .i64 td, .int .i64 tb], .int .i64 0]) (by simp [results, Try.results89, go_sem, r0, r1, r2]) rfl ⟨R1.out, .inr ⟨⟨tl, td, tb⟩, m', HE.out, by omega, hm4, rfl, R2.out⟩⟩
  · have HE : Hid (X = .error 4) := by show _ = _; rw [HX.out, List.drop_of_length_le (by omega)]; rfl
    go_enter Try.func89, Try.ntmps89
    go_wp2_with fail
    refine (bitR_short q a l cap n _ HR.out hl (by omega) (by omega)).mono ?_
    rintro r w1 ⟨rfl, rfl⟩
    go_wp2
    refine bodyPost_ret (v := .tuple #[.agg #[.int .i64 0, .int .i64 0, .int .i64 0], .int .i64 4]) (by simp [results, Try.results89, go_sem]) rfl ⟨(OneKept.refl _ _).alloc _, .inl ⟨4, n, HE.out, by decide, hn, rfl, HR.out⟩⟩
end Go.Proofs.Ytnpnaglgllcpfab
