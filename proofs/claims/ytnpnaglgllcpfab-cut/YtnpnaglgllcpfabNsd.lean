/-
  What Nth answers.
-/
import Derived.Test.YtnpnaglgllcpfabBe4
namespace Go.Proofs.Ytnpnaglgllcpfab
set_option maxRecDepth 100000
open Go.RowKit

theorem AllAt.first {w : World} {B g gc lo j : Nat} {p : List UInt8} (h : AllAt w B g gc p lo) (h1 : lo ≤ j) (h2 : j < p.length) : ∃ a c, w.cell? ⟨g, j * 3 + 2, none⟩ = some (.slice a (firsts p j).length c) ∧ ToksAt w a (firsts p j) := by
  obtain ⟨xs, hr, hx⟩ := h
  obtain ⟨_, _, a, n, c, x2, r⟩ := hx j h1 (by omega)
  obtain ⟨rfl, ht⟩ := r h2
  exact ⟨a, c, by rw [hr.cellAt (j * 3 + 2) (by omega)]; exact x2, TokRow.toks ht⟩
theorem firsts_len (p : List UInt8) (i : Nat) (hp : p.length ≤ 64) (hi : i < p.length) : (firsts p i).length ≤ 2017 := by
  have h1 : (firsts p i).length ≤ (chs p i).length := List.length_filter_le _ _
  have h2 := chTo_len p i (p.length - i - 1)
  unfold chs at h1
  omega

set_option maxHeartbeats 2000000 in
theorem bpick_calls (p : List UInt8) (i k B g gc : Nat) (w : World) (hp : p.length ≤ 64) (hi : i < p.length) (hk : k ≤ 1000000000) (ha : AllAt w B g gc p 0) :
    Calls Try.prog 62 #[.slice (some ⟨g, 0, none⟩) (p.length + 1) gc, .int .i64 i, .int .i64 k] w fun e w' => Below w.heap.size w w' ∧ e = .returned (.tuple #[.agg #[.int .i64 (pickAt p i k).1.len, .int .i64 (pickAt p i k).1.dist, .int .i64 (pickAt p i k).1.byte], .int .i64 (pickAt p i k).2]) := by
  have HTAB : Hid (TabAt w g p 0) := ha.tab
  obtain ⟨fa, fc, c2, htk⟩ := ha.first (Nat.zero_le i) hi
  have HTK : Hid (ToksAt w fa (firsts p i)) := htk
  have hg : g < w.heap.size := World.block_lt_of_cell? w _ c2
  have hfl := firsts_len p i hp hi
  have HPK : Hid (pickAt p i k = pickL (fun t => capW p (i + t.len.toNat)) k 0 tokZ 0 (firsts p i)) := rfl
  generalize pickAt p i k = R at *
  have hin : ∀ t ∈ firsts p i, 1 ≤ t.len ∧ i + t.len.toNat ≤ p.length := fun t ht => (mem_firsts p i hi t ht).2.2
  generalize firsts p i = F at *
  have HIN : Hid _ := hin
  clear ha htk hin
  have hiI : 0 ≤ (i : Int) ∧ (i : Int) < ((p.length + 1 : Nat) : Int) := by omega
  go_enter Try.func62, Try.ntmps62
  go_wp2_with fail
  obtain ⟨hK1, hO1, hX1, hs1⟩ := rest_boxes (wr := w) (o1 := .cells #[.int .i64 0, .int .i64 0, .int .i64 0] 60) (o2 := .cells #[.int .i64 0, .int .i64 0, .int .i64 0] 60) (Below.refl _ _)
  have HK1 : Hid _ := hK1
  have HO1 : Hid _ := hO1
  have HX1 : Hid _ := hX1
  clear hK1 hO1 hX1 c2
  generalize (w.alloc (.cells #[.int .i64 0, .int .i64 0, .int .i64 0] 60)).alloc (.cells #[.int .i64 0, .int .i64 0, .int .i64 0] 60) = w1 at *
  generalize hq : w.heap.size + 1 = q at *
  have HFT : Hid (ToksAt w1 fa F) := ToksAt.below HTK.out (HK1.out)
  have HTB : Hid (TabAt w1 g p 0) := HTAB.out.same (HK1.out.block g hg)
  have HVQ : Hid (0 < F.length → ∀ b off, fa = some ⟨b, off, none⟩ → b ≠ q) := by
    intro h0 b off hb
    rcases HTK.out with h | ⟨b', off', h1, h2, _⟩
    · rw [h] at h0; simp at h0
    · rw [hb] at h1
      simp at h1
      omega
  clear HTK HTAB
  go_loopg [9, 10, 19] F.length (fun gk av nv iv wr => ∃ (j n ah : Nat) (pk : Tok), j ≤ F.length ∧ gk = F.length - j ∧ n ≤ 2000000000 ∧ ah ≤ 2000000000 ∧ av = .int .i64 ah ∧ nv = .int .i64 n ∧ iv = .int .i64 j ∧ Hid (OneKept w1 wr q) ∧ Hid (wr.heap[q]? = some (.cells #[.int .i64 pk.len, .int .i64 pk.dist, .int .i64 pk.byte] 60 (0, 0))) ∧ Hid (R = pickL (fun t => capW p (i + t.len.toNat)) k n pk ah (F.drop j)))
  case atStart => exact ⟨0, 0, 0, tokZ, by omega, rfl, by omega, by omega, rfl, rfl, rfl, OneKept.refl _ _, HX1, HPK⟩
  case round =>
    clear HX1 HPK
    obtain ⟨j, n, ah, pk, hj, hgk, hn, hah, rfl, rfl, rfl, HK, HX, HPK⟩ := hrel
    have HG : Hid (gk = F.length - j) := hgk
    have hsw := HK.out.size
    clear hgk
    have hor : w.heap.size < wr.heap.size := by omega
    have hoq : w.heap.size ≠ q := by omega
    have hqr : q < wr.heap.size := by omega
    have HO2 : Hid (wr.heap[w.heap.size]? = some (.cells #[.int .i64 0, .int .i64 0, .int .i64 0] 60 (0, 0))) := by show _ = _; rw [HK.out.heap _ (by omega) hoq]; exact HO1.out
    have HBL : Hid (Below w.heap.size w wr) := ⟨HK.out.os.trans HK1.out.os, HK.out.tape.trans HK1.out.tape, HK.out.output.trans HK1.out.output, by omega, fun k hk => (HK.out.heap k (by omega) (by omega)).trans (HK1.out.block k hk)⟩
    obtain ⟨⟨x0, x1, x2⟩, y0, y1, y2⟩ := trio_cell HX.out
    obtain ⟨⟨o0, o1, o2⟩, o3, o4, o5⟩ := trio_cell HO2.out
    obtain ⟨pl, pd, pb⟩ := pk
    simp only at x0 x1 x2
    by_cases hlt : j < F.length
    · obtain ⟨vb, voff, hva, hvl, hcell⟩ : ∃ b off, fa = some ⟨b, off, none⟩ ∧ b < w1.heap.size ∧ ∀ i' (hi : i' < F.length),
          w1.cell? ⟨b, off + i' * 3, none⟩ = some (.int .i64 F[i'].len) ∧ w1.cell? ⟨b, off + i' * 3 + 1, none⟩ = some (.int .i64 F[i'].dist) ∧ w1.cell? ⟨b, off + i' * 3 + 2, none⟩ = some (.int .i64 F[i'].byte) := by
        rcases HFT.out with h | h
        · rw [h] at hlt; simp at hlt
        · exact h
      subst hva
      have hvq : vb ≠ q := HVQ.out (by omega) vb voff rfl
      have hkb : wr.heap[vb]? = w1.heap[vb]? := HK.out.heap vb hvl hvq
      obtain ⟨c0, c1, c2⟩ := hcell j hlt
      rw [← World.cell?_of_block (a := ⟨vb, voff + j * 3, none⟩) hkb] at c0
      rw [← World.cell?_of_block (a := ⟨vb, voff + j * 3 + 1, none⟩) hkb] at c1
      rw [← World.cell?_of_block (a := ⟨vb, voff + j * 3 + 2, none⟩) hkb] at c2
      have hvr : vb < wr.heap.size := by omega
      obtain ⟨hl1, hip⟩ := HIN.out F[j] (List.getElem_mem hlt)
      have HD : Hid (F.drop j = F[j] :: F.drop (j + 1)) := List.drop_eq_getElem_cons hlt
      clear hcell hkb
      generalize F[j] = t at *
      obtain ⟨tl, td, tb⟩ := t
      simp only at c0 c1 c2 hl1 hip
      obtain ⟨T, rfl⟩ : ∃ T : Nat, tl = (T : Int) := ⟨tl.toNat, by omega⟩
      rw [Int.toNat_natCast] at hip
      by_cases hnk : k < n
      · have hnk' : (k : Int) < (n : Int) := by omega
        have HR : Hid (R = (⟨pl, pd, pb⟩, ah)) := by show _ = _; rw [HPK.out, pickL_stop _ _ _ _ _ _ hnk]
        go_wp2
        obtain ⟨⟨r0, r1, r2⟩, _⟩ := trio_cell (rest_set3 HO2.out (.int .i64 pl) (.int .i64 pd) (.int .i64 pb))
        have s0 := fun o : Obj => cell_kept ((Below.refl _ _).alloc (Nat.le_refl _) o) r0
        have s1 := fun o : Obj => cell_kept ((Below.refl _ _).alloc (Nat.le_refl _) o) r1
        have s2 := fun o : Obj => cell_kept ((Below.refl _ _).alloc (Nat.le_refl _) o) r2
        refine bodyPost_ret (v := .tuple #[.agg #[.int .i64 pl, .int .i64 pd, .int .i64 pb], .int .i64 ah]) (by simp [results, Try.results62, go_sem, s0, s1, s2]) rfl ?_
        rw [HR.out]
        exact ⟨(((HBL.out.setCell (by simp) _).setCell (by simp) _).setCell (by simp) _).alloc (by rw [set_size, set_size, set_size]; omega) _, rfl⟩
      · have hnk' : ¬ (k : Int) < (n : Int) := by omega
        have hcw := capW_le p (i + T)
        have HP2 : Hid (R = pickL (fun t => capW p (i + t.len.toNat)) k (n + capW p (i + T)) ⟨(T : Int), td, tb⟩ n (F.drop (j + 1))) := by
          show _ = _
          rw [HPK.out, HD.out]
          show (if k < n then _ else _) = _
          rw [if_neg hnk]
          rfl
        obtain ⟨_, d1, _⟩ := (HTB.out.same (w' := wr) (HK.out.heap g (by omega) (by omega))) (i + T) (by omega) hip
        have hgr : g < wr.heap.size := by omega
        have hgq : g ≠ q := by omega
        have hix : 0 ≤ (i : Int) + (T : Int) ∧ (i : Int) + (T : Int) < ((p.length + 1 : Nat) : Int) := by omega
        generalize capW p (i + T) = W at *
        have HK3 : Hid (OneKept w1 ((((wr.setCell ⟨q, 0, none⟩ (.int .i64 T)).setCell ⟨q, 1, none⟩ (.int .i64 td)).setCell ⟨q, 2, none⟩ (.int .i64 tb)).alloc (.cells #[.int .i64 T, .int .i64 td, .int .i64 tb] 60)) q) := (((HK.out.set _).set _).set _).alloc _
        have HX3 : Hid (((((wr.setCell ⟨q, 0, none⟩ (.int .i64 T)).setCell ⟨q, 1, none⟩ (.int .i64 td)).setCell ⟨q, 2, none⟩ (.int .i64 tb)).alloc (.cells #[.int .i64 T, .int .i64 td, .int .i64 tb] 60)).heap[q]? = some (.cells #[.int .i64 T, .int .i64 td, .int .i64 tb] 60 (0, 0))) := by
          show _ = _
          rw [Below.heap_alloc _ _ q (by rw [set_size, set_size, set_size]; omega)]
          exact rest_set3 HX.out _ _ _
        go_wp2
        go_roundg (F.length - (j + 1))
        case measure => have := HG.out; omega
        case rel => exact ⟨j + 1, n + W, n, ⟨(T : Int), td, tb⟩, by omega, rfl, by omega, by omega, rfl, by go_num, by go_num, HK3, HX3, HP2⟩
    · have HR : Hid (R = (⟨pl, pd, pb⟩, ah)) := by
        have := HPK.out
        rw [List.drop_eq_nil_of_le (by omega)] at this
        exact this
      go_wp2
      obtain ⟨⟨r0, r1, r2⟩, _⟩ := trio_cell (rest_set3 HO2.out (.int .i64 pl) (.int .i64 pd) (.int .i64 pb))
      refine bodyPost_ret (v := .tuple #[.agg #[.int .i64 pl, .int .i64 pd, .int .i64 pb], .int .i64 ah]) (by simp [results, Try.results62, go_sem, r0, r1, r2]) rfl ?_
      rw [HR.out]
      exact ⟨((HBL.out.setCell (by simp) _).setCell (by simp) _).setCell (by simp) _, rfl⟩

theorem nth_append {w w2 w3 : World} {v : Value} {acc : List Tok} {o1 o2 : Obj} (hrow : TokRow w2 w.heap.size v acc) (hb : Below w.heap.size w w2) (hg : ((w2.alloc o1).alloc o2).grownBy w3 v.ownBlock) : Below w.heap.size w w3 ∧ w3.heap[w2.heap.size]? = some o1 ∧ w2.heap.size < w3.heap.size := by
  have hs := hb.size
  have hz : ((w2.alloc o1).alloc o2).heap.size = w2.heap.size + 2 := by simp
  have hsz := hg.size
  have hown := fun k hk' => World.ownsRow.lt hrow k hk'
  have hrow' : TokRow ((w2.alloc o1).alloc o2) w.heap.size v acc := TokRow.alloc (TokRow.alloc hrow o1) o2
  refine ⟨((hb.alloc hs o1).alloc (by simp; omega) o2).grown hg (by omega) (fun k hk => (World.ownsRow.lt hrow' k hk).1), ?_, by omega⟩
  rw [hg.block _ (by omega) (fun e => by have := (hown _ e.symm).2; omega), Below.heap_alloc (w2.alloc o1) o2 _ (by simp)]
  exact heap_alloc_new w2 o1

set_option maxHeartbeats 2000000 in
theorem bestNth_calls (a : Option Addr) (p : List UInt8) (cap : Nat) (k : Int) (w : World) (hp : p.length ≤ 64) (hb : BytesAt w a p) :
    Calls Try.prog 46 #[.slice a p.length cap, .int .i64 k] w fun e w' => Below w.heap.size w w' ∧ (((k < 0 ∨ (capW p 0 : Int) ≤ k) ∧ e = .returned (.tuple #[.slice none 0 0, .bool false])) ∨
      (0 ≤ k ∧ k < (capW p 0 : Int) ∧ ∃ v, e = .returned (.tuple #[v, .bool true]) ∧ TokRow w' w.heap.size v (nthOf p k))) := by
  have HB : Hid (BytesAt w a p) := hb
  clear hb
  obtain ⟨it, hti, htz0, htz1, htz2⟩ := info_parts infoTok
  go_enter Try.func46, Try.ntmps46
  go_wp2_with fail
  refine (rests_calls a p cap w hp HB.out).mono ?_
  rintro e w1 ⟨hb1, g, gc, rfl, ha⟩
  obtain ⟨_, c1, _⟩ := ha.tab 0 (Nat.le_refl _) (by omega)
  have HB1 : Hid (Below w.heap.size w w1) := hb1
  have HA : Hid (AllAt w1 w.heap.size g gc p 0) := ha
  have hcw := capW_le p 0
  simp only [Nat.zero_mul, Nat.zero_add] at c1
  have hiI : 0 ≤ (0 : Int) ∧ (0 : Int) < ((p.length + 1 : Nat) : Int) := by omega
  clear hb1 ha
  generalize hC : capW p 0 = C at *
  have HC : Hid (capW p 0 = C) := hC
  clear hC
  by_cases hk0 : k < 0
  · go_wp2
    go_ret2
    exact ⟨HB1.out, .inl ⟨.inl hk0, rfl⟩⟩
  · by_cases hkc : (C : Int) ≤ k
    · go_wp2
      go_ret2
      exact ⟨HB1.out, .inl ⟨.inr (by rw [HC.out]; exact hkc), rfl⟩⟩
    · obtain ⟨K, rfl⟩ : ∃ K : Nat, k = (K : Int) := ⟨k.toNat, by omega⟩
      have hKC : K < C := by omega
      clear hk0
      go_wp2_with fail
      clear c1
      have HN0 : Hid (nthOf p (K : Int) = nthGo p p.length 0 K) := by show _ = _; unfold nthOf; rw [Int.toNat_natCast]
      have HKC : Hid (K < capW p 0) := by show _ < _; rw [HC.out]; exact hKC
      go_loopg [1, 7, 8] p.length (fun gk kv v atv wr => ∃ (i K' f : Nat) (acc : List Tok), i ≤ p.length ∧ gk = p.length - i ∧ K' ≤ 1000000000 ∧ kv = .int .i64 K' ∧ atv = .int .i64 i ∧ acc.length ≤ i ∧ p.length - i ≤ f ∧ Hid (K' < capW p i) ∧ Hid (nthOf p (K : Int) = acc ++ nthGo p f i K') ∧ Hid (TokRow wr w1.heap.size v acc) ∧ Hid (Below w1.heap.size w1 wr))
      case atStart => exact ⟨0, K, p.length, [], by omega, rfl, by omega, rfl, rfl, by simp, by omega, HKC, HN0, World.ownsRow_nil _ _ _ _, Below.refl _ _⟩
      case round =>
        clear HN0 HKC
        obtain ⟨i, K', f, acc, hi, hgk, hK', rfl, rfl, hal, hf, HKI, HN, HROW, HW⟩ := hrel
        have HG : Hid (gk = p.length - i) := hgk
        clear hgk
        obtain ⟨ao, cp, rfl⟩ := TokRow.form HROW.out
        have hsz := HW.out.size
        by_cases hlt : i < p.length
        · obtain ⟨A, x, B, e1, e2, h3, h4⟩ := pickAt_is p i K' hlt HKI.out
          obtain ⟨_, _, m3, m4⟩ := mem_firsts p i hlt x (by rw [e1]; simp)
          obtain ⟨f, rfl⟩ : ∃ f', f = f' + 1 := ⟨f - 1, by omega⟩
          have HPK : Hid (Calls Try.prog 62 #[.slice (some ⟨g, 0, none⟩) (p.length + 1) gc, .int .i64 i, .int .i64 K'] wr fun e w' => Below wr.heap.size wr w' ∧ e = .returned (.tuple #[.agg #[.int .i64 x.len, .int .i64 x.dist, .int .i64 x.byte], .int .i64 ((A.map fun t => capW p (i + t.len.toNat)).sum : Nat)])) := by
            have := bpick_calls p i K' w.heap.size g gc wr hp hlt hK' (HA.out.below HW.out)
            rw [e2] at this
            exact this
          have HN2 : Hid (nthOf p (K : Int) = (acc ++ [x]) ++ nthGo p f (i + x.len.toNat) (K' - (A.map fun t => capW p (i + t.len.toNat)).sum)) := by
            show _ = _
            rw [HN.out]
            simp only [nthGo, if_pos hlt, e2]
            simp
          have HKI2 : Hid (K' - (A.map fun t => capW p (i + t.len.toNat)).sum < capW p (i + x.len.toNat)) := by show _ < _; omega
          generalize (A.map fun t => capW p (i + t.len.toNat)).sum = S at *
          clear e1 e2 h4
          obtain ⟨tl, td, tb⟩ := x
          simp only at m3 m4
          obtain ⟨T, rfl⟩ : ∃ T : Nat, tl = (T : Int) := ⟨tl.toNat, by omega⟩
          rw [Int.toNat_natCast] at m4
          go_wp2_with fail
          refine (Calls.mono HPK.out ?_)
          rintro e w2 ⟨hb2, rfl⟩
          have HW2 : Hid (Below w1.heap.size w1 w2) := HW.out.trans (hb2.mono hsz)
          have HROW2 : Hid (TokRow w2 w1.heap.size (.slice ao acc.length cp) acc) := TokRow.below HROW.out hb2
          have hs2 := hb2.size
          clear hb2 HPK
          go_wp2_with (at_builtin; refine wpList_append_own _ rfl _ _ 34 rfl w1.heap.size 60 it (.agg #[.int .i64 0, .int .i64 0, .int .i64 0]) 3 24 Try.underlying34 hti htz0 htz1 htz2 rfl (by decide) _ _ _ rfl ((TokRow.alloc HROW2.out _).alloc _) ⟨w2.heap.size + 1, 0, none⟩ 1 1 [.int .i64 T, .int .i64 td, .int .i64 tb] rfl rfl ?b1 ?b2 ?b3 ?b4 ?b5 ?_)
          case b1 => intro j u hj; exact cell_new3' _ _ (by simp) _ _ _ _ j u hj
          case b2 => intro u hu; simp at hu; rcases hu with rfl | rfl | rfl <;> rfl
          case b3 => unfold maxLen; omega
          case b4 => omega
          case b5 => first | omega | (simp; omega)
          intro v' w3 hown' hgrow _
          obtain ⟨hk3, hx3, hz3⟩ := nth_append HROW2.out HW2.out hgrow
          have HW3 : Hid (Below w1.heap.size w1 w3) := hk3
          have HROW3 : Hid (TokRow w3 w1.heap.size v' (acc ++ [⟨(T : Int), td, tb⟩])) := by
            show w3.ownsRow _ _ _ _ _ _
            rw [cellsT_snoc, List.length_append]
            exact hown'
          obtain ⟨⟨b0, b1, b2⟩, _⟩ := trio_cell hx3
          clear hown' hgrow hk3 hx3
          go_wp2
          go_roundg (p.length - (i + T))
          case measure => have := HG.out; omega
          case rel => exact ⟨i + T, K' - S, f, acc ++ [⟨(T : Int), td, tb⟩], by omega, rfl, by omega, by go_num, by go_num, by simp; omega, by omega, HKI2, HN2, HROW3, HW3⟩
        · have hie : i = p.length := by omega
          have HNE : Hid (nthOf p (K : Int) = acc) := by
            show _ = _
            rw [HN.out]
            cases f with
            | zero => simp [nthGo]
            | succ f => simp [nthGo, hlt]
          go_wp2
          go_ret2
          exact ⟨HB1.out.trans (HW.out.mono HB1.out.size), .inr ⟨by omega, by rw [HC.out]; omega, _, rfl, by rw [HNE.out]; exact row_less HROW.out HB1.out.size⟩⟩
set_option maxHeartbeats 1000000 in
theorem nth_said : NthSaid nthOf := by
  intro a p cap k w hl hb
  have HB : Hid (BytesAt w a p) := hb
  clear hb
  go_enter Try.func24, Try.ntmps24
  by_cases h64 : 64 < p.length
  · have h1 : (64 : Int) < (p.length : Int) := by omega
    go_wp2
    go_ret2
    exact ⟨Below.refl _ _, _, [], _, rfl, World.ownsRow_nil _ _ _ _, .inl ⟨h64, rfl, rfl⟩, fun h => by cases h⟩
  · have h1 : ¬ (64 : Int) < (p.length : Int) := by omega
    have hp : p.length ≤ 64 := by omega
    have HL : Hid (cap9 (leastW p) = (capW p 0 : Int)) := leastW_is p
    go_wp2_with fail
    refine (bestNth_calls a p cap k w hp HB.out).mono ?_
    rintro e w1 ⟨hb1, ⟨hk, rfl⟩ | ⟨hk0, hk1, v, rfl, hrow⟩⟩
    · have HB1 : Hid (Below w.heap.size w w1) := hb1
      clear hb1
      have HKK : Hid _ := hk
      clear hk
      go_wp2
      go_ret2
      exact ⟨HB1.out, _, [], _, rfl, World.ownsRow_nil _ _ _ _, .inr (.inl ⟨hp, by rw [HL.out]; exact HKK.out, rfl, rfl⟩), fun h => by cases h⟩
    · have HB1 : Hid (Below w.heap.size w w1) := hb1
      have HROW : Hid _ := hrow
      obtain ⟨ao, cp, rfl⟩ := TokRow.form hrow
      have HKK : Hid _ := hk1
      have HON : Hid _ := nthOf_is p k hp hk0 hk1
      clear hb1 hrow hk1
      go_wp2
      go_ret2
      exact ⟨HB1.out, _, nthOf p k, _, rfl, HROW.out, .inr (.inr ⟨hp, hk0, by rw [HL.out]; exact HKK.out, rfl, HON.out.1, HON.out.2⟩), fun _ => rfl⟩
end Go.Proofs.Ytnpnaglgllcpfab
