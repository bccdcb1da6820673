/-
  What the program's Decompress and Unpack answer of bytes in memory.
-/
import Derived.Test.YtnpnaglgllcpfabRdA
import Derived.Test.YtnpnaglgllcpfabSb8
namespace Go.Proofs.Ytnpnaglgllcpfab
set_option maxRecDepth 100000
open Go.RowKit

/-- A frame of a row of frames, as it lies. -/
theorem FramesAt.at {w : World} {B : Nat} {v : Value} {fs : List (List Tok × List UInt8)} (h : FramesAt w B v fs) (k : Nat) (hk : k < fs.length) :
    ∃ g cap a c gb d, v = .slice (some ⟨g, 0, none⟩) fs.length cap ∧ g < w.heap.size ∧ w.cell? ⟨g, k * 2, none⟩ = some (.slice a (fs.getD k ([], [])).1.length c) ∧ w.cell? ⟨g, k * 2 + 1, none⟩ = some (.slice (some ⟨gb, 0, none⟩) (fs.getD k ([], [])).2.length d) ∧
      TokRow w B (.slice a (fs.getD k ([], [])).1.length c) (fs.getD k ([], [])).1 ∧ OwnB w B (.slice (some ⟨gb, 0, none⟩) (fs.getD k ([], [])).2.length d) (fs.getD k ([], [])).2 ∧ 1 ≤ (fs.getD k ([], [])).2.length ∧ gb < w.heap.size := by
  obtain ⟨vs, ho, hin⟩ := h
  obtain ⟨a, c, b, d, h1, h2, h3, h4, h5⟩ := hin k hk
  rcases ho.2 with ⟨_, hn⟩ | ⟨g, cap, cur, rfl, hb, hg, _⟩
  · omega
  · obtain ⟨gb, cb, hv, _, hlt, _⟩ := h4.at h5
    simp at hv
    obtain ⟨rfl, rfl⟩ := hv
    have hadd : ∀ j, (⟨g, 0, none⟩ : Addr).add j = ⟨g, j, none⟩ := fun j => by unfold Addr.add; split <;> simp_all
    have k1 := World.ownsRow.cells ho (g := g) rfl _ _ h1
    have k2 := World.ownsRow.cells ho (g := g) rfl _ _ h2
    rw [hadd] at k1 k2
    exact ⟨g, cap, a, c, gb, _, rfl, (Array.getElem?_eq_some_iff.1 hg).1, k1, k2, h3, h4, h5, hlt⟩
theorem dataOf_append (a b : List (List Tok × List UInt8)) : dataOf (a ++ b) = dataOf a ++ dataOf b := by
  show ((a ++ b).map Prod.snd).flatten = _
  rw [List.map_append, List.flatten_append]
theorem psOf_append (a b : List (List Tok × List UInt8)) : psOf (a ++ b) = psOf a ++ psOf b := List.map_append
theorem getD_at (fs : List (List Tok × List UInt8)) (k : Nat) (h : k < fs.length) : fs.getD k ([], []) = fs[k] := by simp [List.getD, h]
theorem dataOf_take (fs : List (List Tok × List UInt8)) (k : Nat) (h : k < fs.length) : dataOf (fs.take (k + 1)) = dataOf (fs.take k) ++ (fs.getD k ([], [])).2 := by
  rw [List.take_succ_eq_append_getElem h, dataOf_append, getD_at fs k h]
  simp [dataOf]
theorem psOf_take (fs : List (List Tok × List UInt8)) (k : Nat) (h : k < fs.length) : psOf (fs.take (k + 1)) = psOf (fs.take k) ++ [(fs.getD k ([], [])).1] := by
  rw [List.take_succ_eq_append_getElem h, psOf_append, getD_at fs k h]
  rfl
theorem dataOf_take_le (fs : List (List Tok × List UInt8)) (k : Nat) : (dataOf (fs.take k)).length ≤ (dataOf fs).length := by
  have h : dataOf fs = dataOf (fs.take k) ++ dataOf (fs.drop k) := by
    conv => lhs; rw [← List.take_append_drop k fs]
    exact dataOf_append _ _
  rw [h, List.length_append]; omega

theorem cell_new1' (w : World) (k : Nat) (hk : k = w.heap.size) (u : Value) (t : TypeId) (j : Nat) (v : Value) (hj : [u][j]? = some v) : (w.alloc (.cells #[u] t)).cell? ((⟨k, 0, none⟩ : Addr).add j) = some v := by
  subst hk; exact cell_new1 w u t j v hj

set_option maxHeartbeats 1000000 in
theorem dataOf_calls (B : Nat) (fo : Option Addr) (fc : Nat) (fs : List (List Tok × List UInt8)) (w1 : World) (hfr : FramesAt w1 B (.slice fo fs.length fc) fs) (hfl : fs.length ≤ 4096) (hdl : (dataOf fs).length ≤ 64 * fs.length) :
    Calls Try.prog 37 #[.slice fo fs.length fc] w1 fun e w' => ∃ v, e = .returned v ∧ OwnB w' w1.heap.size v (dataOf fs) ∧ Below w1.heap.size w1 w' := by
  have HFR : Hid (FramesAt w1 B (.slice fo fs.length fc) fs) := hfr
  obtain ⟨i0, hi, hz0, hz1, hz2⟩ := info_parts info8
  clear hfr
  go_enter Try.func37, Try.ntmps37
  go_wp2_with fail
  go_loopw [3, 8] (fun v i wr => ∃ k : Nat, k ≤ fs.length ∧ i = .int .i64 k ∧ Hid (OwnB wr w1.heap.size v (dataOf (fs.take k))) ∧ Hid (Below w1.heap.size w1 wr)) (fun _ i _ => fs.length - (intOf i).toNat)
  case atStart => exact ⟨0, by omega, rfl, World.ownsRow_nil _ _ _ _, Below.refl _ _⟩
  case round =>
    obtain ⟨k, hk, rfl, HO, HBW⟩ := hrel
    have hsw := HBW.out.size
    obtain ⟨vo, vc, rfl⟩ := HO.out.form
    by_cases hlt : k < fs.length
    · obtain ⟨g, fc', ta, tc, gb, bc, hv, hgl, k1, k2, hT, hO2, h1o, hgb⟩ := HFR.out.at k hlt
      simp at hv
      obtain ⟨rfl, rfl⟩ := hv
      have HDT : Hid (dataOf (fs.take (k + 1)) = dataOf (fs.take k) ++ (fs.getD k ([], [])).2) := dataOf_take fs k hlt
      have hle := dataOf_take_le fs (k + 1)
      rw [HDT.out, List.length_append] at hle
      generalize (fs.getD k ([], [])).2 = out at *
      generalize (fs.getD k ([], [])).1 = ts at *
      generalize dataOf (fs.take k) = acc at *
      have c1 : wr.cell? ⟨g, k * 2, none⟩ = some (.slice ta ts.length tc) := by rw [HBW.out.cell (p := ⟨g, _, none⟩) hgl]; exact k1
      have c2 : wr.cell? ⟨g, k * 2 + 1, none⟩ = some (.slice (some ⟨gb, 0, none⟩) out.length bc) := by rw [HBW.out.cell (p := ⟨g, _, none⟩) hgl]; exact k2
      have HOB : Hid (OwnB wr B (.slice (some ⟨gb, 0, none⟩) out.length bc) out) := hO2.below HBW.out
      have hoc := own_max hO2
      clear k1 k2 hT hO2
      have hgw : gb < wr.heap.size := by omega
      go_wp2_with (at_builtin; refine wpList_append_own _ rfl _ _ 22 rfl w1.heap.size 5 i0 (.int .u8 0) 1 1 Try.underlying22 hi hz0 hz1 hz2 rfl (by decide) _ _ _ rfl (HO.out.alloc _) ⟨gb, 0, none⟩ out.length bc (cellsB out) rfl ?b0 ?b1 ?b2 ?b3 ?b4 ?b5 ?_)
      case b0 => simp [cellsB]
      case b1 => intro j u hj; exact World.ownsRow.cells (HOB.out.alloc _) (g := gb) rfl j u hj
      case b2 => intro u hu; simp [cellsB] at hu; obtain ⟨_, _, rfl⟩ := hu; rfl
      case b3 => unfold maxLen; omega
      case b4 => omega
      case b5 => first | omega | (simp; omega)
      intro v' w3 hown' hgrow _
      have hbw3 : Below w1.heap.size w1 w3 := below_own (HBW.out.alloc (by omega) _) (HO.out.alloc _) hgrow (Nat.le_refl _) (by simp; omega)
      have HO3 : Hid (OwnB w3 w1.heap.size v' (acc ++ out)) := by
        show w3.ownsRow _ _ _ _ _ _
        rw [List.length_append, show cellsB (acc ++ out) = cellsB acc ++ cellsB out by simp [cellsB]]
        exact hown'
      have HB3 : Hid (Below w1.heap.size w1 w3) := hbw3
      clear hown' hgrow hbw3 c1 c2
      go_wp2
      go_roundw
      case rel => exact ⟨k + 1, by omega, by go_num, by rw [HDT.out]; exact HO3, HB3⟩
      case measure => simp [intOf]; omega
    · have hke : k = fs.length := by omega
      have HF : Hid (dataOf (fs.take k) = dataOf fs) := by show _ = _; rw [hke, List.take_length]
      go_wp2
      go_ret
      exact ⟨_, rfl, by rw [← HF.out]; exact HO.out, HBW.out⟩

set_option maxHeartbeats 1000000 in
theorem dec_said : DecSaid := by
  intro a l cap w hl hb
  have HB : Hid (BytesAt w a l) := hb
  clear hb
  go_enter Try.func12, Try.ntmps12
  go_wp2_with fail
  refine (sread_calls a l cap w hl HB.out).mono ?_
  rintro e w1 ⟨hb1, ⟨c, hc, rfl, hres⟩ | ⟨fs, v, rfl, hfr, hfl, hdl, hr1, hr2, hr3⟩⟩
  · have HB1 : Hid (Below w.heap.size w w1) := hb1
    have HE : Hid ((rRead l).1 = c) := hres
    have HC : Hid (c ≠ 0) := hc
    have hcb : (c != 0) = true := by simpa using hc
    clear hb1 hres hc
    go_wp2
    go_ret2
    exact ⟨HB1.out, _, [], by rw [HE.out]; rfl, World.ownsRow_nil _ _ _ _, fun h => absurd (HE.out.symm.trans h) HC.out, fun _ => rfl⟩
  · have HB1 : Hid (Below w.heap.size w w1) := hb1
    have HR1 : Hid ((rRead l).1 = 0) := hr1
    have HR3 : Hid ((rRead l).2.2.1 = dataOf fs) := hr3
    obtain ⟨fo, fc, rfl⟩ := row_form hfr.choose_spec.1
    have hs1 := hb1.size
    have HD : Hid _ := dataOf_calls _ fo fc fs w1 hfr hfl hdl
    clear hb1 hfr hr1 hr2 hr3
    go_wp2_with fail
    refine Calls.mono HD.out ?_
    rintro e w2 ⟨v, rfl, hO, hb2⟩
    obtain ⟨vo, vc, rfl⟩ := hO.form
    have HO : Hid (OwnB w2 w.heap.size (.slice vo (dataOf fs).length vc) (dataOf fs)) := row_le hO hs1
    have HB2 : Hid (Below w.heap.size w w2) := HB1.out.trans (hb2.mono hs1)
    have HR4 : Hid ((rRead l).2.2.1 = dataOf fs) := HR3
    clear hO hb2 HD hdl HR3
    generalize dataOf fs = D at *
    go_wp2
    go_ret2
    exact ⟨HB2.out, _, D, by rw [HR1.out]; rfl, HO.out, fun _ => HR4.out.symm, fun h => absurd HR1.out h⟩

/-- So many pieces' tokens, as cells. -/
def RowsOf (w : World) (B : Nat) (fs : List (List Tok × List UInt8)) (vs : List Value) (k : Nat) : Prop :=
  ∀ i, i < k → ∃ a c, vs[i]? = some (.slice a (fs.getD i ([], [])).1.length c) ∧ TokRow w B (.slice a (fs.getD i ([], [])).1.length c) (fs.getD i ([], [])).1
theorem psOf_getD (fs : List (List Tok × List UInt8)) (i : Nat) (h : i < fs.length) : (psOf fs).getD i [] = (fs.getD i ([], [])).1 := by
  rw [getD_at fs i h]
  simp [psOf, List.getD, h]

set_option maxHeartbeats 1000000 in
theorem unp_said : UnpSaid := by
  intro a l cap w hl hb
  have HB : Hid (BytesAt w a l) := hb
  obtain ⟨i0, hi, hz0, hz1, hz2⟩ := info_parts infoToks
  clear hb
  go_enter Try.func13, Try.ntmps13
  go_wp2_with fail
  refine (sread_calls a l cap w hl HB.out).mono ?_
  rintro e w1 ⟨hb1, ⟨c, hc, rfl, hres⟩ | ⟨fs, v, rfl, hfr, hfl, hdl, hr1, hr2, hr3⟩⟩
  · have HB1 : Hid (Below w.heap.size w w1) := hb1
    have HE : Hid ((rRead l).1 = c) := hres
    have HC : Hid (c ≠ 0) := hc
    have hcb : (c != 0) = true := by simpa using hc
    clear hb1 hres hc
    go_wp2
    go_ret2
    exact ⟨HB1.out, none, [], 0, by rw [HE.out]; rfl, .inl rfl, by simp, fun h => absurd (HE.out.symm.trans h) HC.out, fun _ => rfl⟩
  · have HB1 : Hid (Below w.heap.size w w1) := hb1
    have HFR : Hid (FramesAt w1 w.heap.size v fs) := hfr
    have HR1 : Hid ((rRead l).1 = 0) := hr1
    have HR2 : Hid ((rRead l).2.1 = psOf fs) := hr2
    obtain ⟨fo, fc, rfl⟩ := row_form hfr.choose_spec.1
    have hs1 := hb1.size
    clear hb1 hfr hr1 hr2 hr3
    go_wp2_with fail
    go_loopw [6, 19] (fun v i wr => ∃ (k : Nat) (vs : List Value), k ≤ fs.length ∧ i = .int .i64 k ∧ Hid (wr.ownsRow w1.heap.size 34 1 v k vs) ∧ Hid (RowsOf w1 w.heap.size fs vs k) ∧ Hid (Below w1.heap.size w1 wr)) (fun _ i _ => fs.length - (intOf i).toNat)
    case atStart => exact ⟨0, [], by omega, rfl, World.ownsRow_nil _ _ _ _, fun i hi => by omega, Below.refl _ _⟩
    case round =>
      obtain ⟨k, vs, hk, rfl, HO, HRW, HBW⟩ := hrel
      have hsw := HBW.out.size
      obtain ⟨vo, vc, rfl⟩ := row_form HO.out
      by_cases hlt : k < fs.length
      · obtain ⟨g, fc', ta, tc, gb, bc, hv, hgl, k1, k2, hT, hO2, h1o, hgb⟩ := HFR.out.at k hlt
        simp at hv
        obtain ⟨rfl, rfl⟩ := hv
        have HT : Hid (TokRow w1 w.heap.size (.slice ta (fs.getD k ([], [])).1.length tc) (fs.getD k ([], [])).1) := hT
        have c1 : wr.cell? ⟨g, k * 2, none⟩ = some (.slice ta (fs.getD k ([], [])).1.length tc) := by rw [HBW.out.cell (p := ⟨g, _, none⟩) hgl]; exact k1
        have c2 : wr.cell? ⟨g, k * 2 + 1, none⟩ = some (.slice (some ⟨gb, 0, none⟩) (fs.getD k ([], [])).2.length bc) := by rw [HBW.out.cell (p := ⟨g, _, none⟩) hgl]; exact k2
        clear k1 k2 hT hO2 h1o
        generalize (fs.getD k ([], [])).2.length = nB at *
        generalize hN : (fs.getD k ([], [])).1.length = nT at *
        have HN : Hid ((fs.getD k ([], [])).1.length = nT) := hN
        clear hN
        go_wp2_with (at_builtin; refine wpList_append_own _ rfl _ _ 27 rfl w1.heap.size 34 i0 (.slice none 0 0) 1 24 Try.underlying27 hi hz0 hz1 hz2 rfl (by decide) _ _ _ rfl ((World.ownsRow.alloc HO.out _).alloc _) ⟨wr.heap.size + 1, 0, none⟩ 1 1 [.slice ta nT tc] rfl rfl ?b1 ?b2 ?b3 ?b4 ?b5 ?_)
        case b1 => intro j u hj; exact cell_new1' _ _ (by simp) _ _ j u hj
        case b2 => intro u hu; simp at hu; subst hu; rfl
        case b3 => unfold maxLen; omega
        case b4 => omega
        case b5 => first | omega | (simp; omega)
        intro v' w3 hown' hgrow _
        have hbw3 : Below w1.heap.size w1 w3 := ((HBW.out.alloc (by omega) _).alloc (by simp; omega) _).grown hgrow (by simp; omega) (fun k hk => (World.ownsRow.lt HO.out k hk).1)
        have HO3 : Hid (w3.ownsRow w1.heap.size 34 1 v' (k + 1) (vs ++ [.slice ta nT tc])) := hown'
        have HB3 : Hid (Below w1.heap.size w1 w3) := hbw3
        have HRW3 : Hid (RowsOf w1 w.heap.size fs (vs ++ [.slice ta nT tc]) (k + 1)) := by
          have hvl : vs.length = k * 1 := HO.out.1
          intro i hi
          rcases Nat.lt_or_ge i k with h | h
          · obtain ⟨a', c', h1, h2⟩ := HRW.out i h
            exact ⟨a', c', by rw [List.getElem?_append_left (by omega)]; exact h1, h2⟩
          · have hi' : i = k := by omega
            subst hi'
            exact ⟨ta, tc, by rw [HN.out, List.getElem?_append_right (by omega)]; simp [hvl], by rw [HN.out]; exact HT.out⟩
        clear hown' hgrow hbw3 c1 c2
        go_wp2
        go_roundw
        case rel => exact ⟨k + 1, _, by omega, by go_num, HO3, HRW3, HB3⟩
        case measure => simp [intOf]; omega
      · have hke : k = fs.length := by omega
        subst hke
        have HLS : Hid (Lists wr w.heap.size (psOf fs) [] [] (.slice vo fs.length vc) (.slice none 0 0) (.slice none 0 0)) := by
          have hpl : (psOf fs).length = fs.length := by simp
          refine ⟨⟨vs, ?_, fun i hi => ?_⟩, World.ownsRow_nil _ _ _ _, World.ownsRow_nil _ _ _ _⟩
          · rw [hpl]; exact row_le HO.out hs1
          · rw [hpl] at hi
            obtain ⟨a', c', h1, h2⟩ := HRW.out i hi
            rw [psOf_getD fs i hi]
            exact ⟨a', c', h1, row_below h2 HBW.out⟩
        obtain ⟨pa, pc, hv, hpm, hat⟩ := HLS.out.at
        have HAT : Hid _ := hat
        have HV : Hid _ := hv
        have HPM : Hid _ := hpm
        clear hat hv hpm
        go_wp2
        go_ret2
        exact ⟨HB1.out.trans (HBW.out.mono hs1), pa, psOf fs, pc, by rw [HR1.out, ← HV.out]; rfl, HAT.out, HPM.out, fun _ => by rw [HR2.out], fun h => absurd HR1.out h⟩
end Go.Proofs.Ytnpnaglgllcpfab
