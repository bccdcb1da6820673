/-
  Lemmas for the law All: Dec, App, Round, Round2, Dcr.
-/
import Derived.Test.YtnpnaglgllcpfaaGreatM04
import Derived.Test.YtnpnaglgllcpfaaGreatM08
import Derived.Laws.AppendOwnNone
import Derived.Test.YtnpnaglgllcpfaaGreatM03
/- What the program's Decompress and Unpack answer of bytes in memory. -/
namespace Go.Proofs.YtnpnaglgllcpfaaGreat
set_option maxRecDepth 100000
open Go.RowKit

/-- A frame of a row of frames, as it lies. -/
theorem FramesAt.at {w : World} {B : Nat} {v : Value} {fs : List (List Tok × List UInt8)} (h : FramesAt w B v fs) (k : Nat) (hk : k < fs.length) :
    ∃ g cap a c gb d, v = .slice (some ⟨g, 0, none⟩) fs.length cap ∧ g < w.heap.size ∧ w.cell? ⟨g, k * 2, none⟩ = some (.slice a (fs.getD k ([], [])).1.length c) ∧ w.cell? ⟨g, k * 2 + 1, none⟩ = some (.slice (some ⟨gb, 0, none⟩) (fs.getD k ([], [])).2.length d) ∧
      TokRow w B (.slice a (fs.getD k ([], [])).1.length c) (fs.getD k ([], [])).1 ∧ OwnB w B (.slice (some ⟨gb, 0, none⟩) (fs.getD k ([], [])).2.length d) (fs.getD k ([], [])).2 ∧ 1 ≤ (fs.getD k ([], [])).2.length ∧ gb < w.heap.size := by
  obtain ⟨vs, ho, hin⟩ := h
  obtain ⟨a, c, b, d, h1, h2, h3, h4, h5, _⟩ := hin k hk
  rcases ho.2 with ⟨_, hn⟩ | ⟨g, cap, cur, rfl, hb, hg, _⟩
  · omega
  · obtain ⟨gb, cb, hv, _, hlt, _⟩ := h4.at h5
    simp at hv
    obtain ⟨rfl, rfl⟩ := hv
    have hadd : ∀ j, (⟨g, 0, none⟩ : Addr).add j = ⟨g, j, none⟩ := fun j => by unfold Addr.add; split <;> simp_all
    have k1 := World.ownsRow.cells ho (g := g) rfl _ _ h1
    have k2 := World.ownsRow.cells ho (g := g) rfl _ _ h2
    rw [hadd] at k1 k2
    exact ⟨g, cap, a, c, gb, _, rfl, (Array.getElem?_eq_some_iff.1 hg).1, k1, k2, h3, h4, h5, hlt⟩
theorem dataOf_append (a b : List (List Tok × List UInt8)) : dataOf (a ++ b) = dataOf a ++ dataOf b := by
  show ((a ++ b).map Prod.snd).flatten = _
  rw [List.map_append, List.flatten_append]
theorem psOf_append (a b : List (List Tok × List UInt8)) : psOf (a ++ b) = psOf a ++ psOf b := List.map_append
theorem getD_at (fs : List (List Tok × List UInt8)) (k : Nat) (h : k < fs.length) : fs.getD k ([], []) = fs[k] := by simp [List.getD, h]
theorem dataOf_take (fs : List (List Tok × List UInt8)) (k : Nat) (h : k < fs.length) : dataOf (fs.take (k + 1)) = dataOf (fs.take k) ++ (fs.getD k ([], [])).2 := by
  rw [List.take_succ_eq_append_getElem h, dataOf_append, getD_at fs k h]
  simp [dataOf]
theorem psOf_take (fs : List (List Tok × List UInt8)) (k : Nat) (h : k < fs.length) : psOf (fs.take (k + 1)) = psOf (fs.take k) ++ [(fs.getD k ([], [])).1] := by
  rw [List.take_succ_eq_append_getElem h, psOf_append, getD_at fs k h]
  rfl
theorem dataOf_take_le (fs : List (List Tok × List UInt8)) (k : Nat) : (dataOf (fs.take k)).length ≤ (dataOf fs).length := by
  have h : dataOf fs = dataOf (fs.take k) ++ dataOf (fs.drop k) := by
    conv => lhs; rw [← List.take_append_drop k fs]
    exact dataOf_append _ _
  rw [h, List.length_append]; omega

theorem cell_new1' (w : World) (k : Nat) (hk : k = w.heap.size) (u : Value) (t : TypeId) (j : Nat) (v : Value) (hj : [u][j]? = some v) : (w.alloc (.cells #[u] t)).cell? ((⟨k, 0, none⟩ : Addr).add j) = some v := by
  subst hk; exact cell_new1 w u t j v hj

set_option maxHeartbeats 1000000 in
theorem dataOf_calls (B : Nat) (fo : Option Addr) (fc : Nat) (fs : List (List Tok × List UInt8)) (w1 : World) (hfr : FramesAt w1 B (.slice fo fs.length fc) fs) (hfl : fs.length ≤ 4096) (hdl : (dataOf fs).length ≤ 64 * fs.length) :
    Calls Tryz.prog 80 #[.slice fo fs.length fc] w1 fun e w' => ∃ v, e = .returned v ∧ OwnB w' w1.heap.size v (dataOf fs) ∧ Below w1.heap.size w1 w' := by
  have HFR : Hid (FramesAt w1 B (.slice fo fs.length fc) fs) := hfr
  obtain ⟨i0, hi, hz0, hz1, hz2⟩ := info_parts info8
  clear hfr
  go_enter Tryz.func80, Tryz.ntmps80
  go_wp2_with fail
  go_loopw [3, 8] (fun v i wr => ∃ k : Nat, k ≤ fs.length ∧ i = .int .i64 k ∧ Hid (OwnB wr w1.heap.size v (dataOf (fs.take k))) ∧ Hid (Below w1.heap.size w1 wr)) (fun _ i _ => fs.length - (intOf i).toNat)
  case atStart => exact ⟨0, by omega, rfl, World.ownsRow_nil _ _ _ _, Below.refl _ _⟩
  case round =>
    obtain ⟨k, hk, rfl, HO, HBW⟩ := hrel
    have hsw := HBW.out.size
    obtain ⟨vo, vc, rfl⟩ := HO.out.form
    by_cases hlt : k < fs.length
    · obtain ⟨g, fc', ta, tc, gb, bc, hv, hgl, k1, k2, hT, hO2, h1o, hgb⟩ := HFR.out.at k hlt
      simp at hv
      obtain ⟨rfl, rfl⟩ := hv
      have HDT : Hid (dataOf (fs.take (k + 1)) = dataOf (fs.take k) ++ (fs.getD k ([], [])).2) := dataOf_take fs k hlt
      have hle := dataOf_take_le fs (k + 1)
      rw [HDT.out, List.length_append] at hle
      generalize (fs.getD k ([], [])).2 = out at *
      generalize (fs.getD k ([], [])).1 = ts at *
      generalize dataOf (fs.take k) = acc at *
      have c1 : wr.cell? ⟨g, k * 2, none⟩ = some (.slice ta ts.length tc) := by rw [HBW.out.cell (p := ⟨g, _, none⟩) hgl]; exact k1
      have c2 : wr.cell? ⟨g, k * 2 + 1, none⟩ = some (.slice (some ⟨gb, 0, none⟩) out.length bc) := by rw [HBW.out.cell (p := ⟨g, _, none⟩) hgl]; exact k2
      have HOB : Hid (OwnB wr B (.slice (some ⟨gb, 0, none⟩) out.length bc) out) := hO2.below HBW.out
      have hoc := own_max hO2
      clear k1 k2 hT hO2
      have hgw : gb < wr.heap.size := by omega
      go_wp2_with (at_builtin; refine wpList_append_own _ rfl _ _ 37 rfl w1.heap.size 5 i0 (.int .u8 0) 1 1 Tryz.underlying37 hi hz0 hz1 hz2 rfl (by decide) _ _ _ rfl (HO.out.alloc _) ⟨gb, 0, none⟩ out.length bc (cellsB out) rfl ?b0 ?b1 ?b2 ?b3 ?b4 ?b5 ?_)
      case b0 => simp [cellsB]
      case b1 => intro j u hj; exact World.ownsRow.cells (HOB.out.alloc _) (g := gb) rfl j u hj
      case b2 => intro u hu; simp [cellsB] at hu; obtain ⟨_, _, rfl⟩ := hu; rfl
      case b3 => unfold maxLen; omega
      case b4 => omega
      case b5 => first | omega | (simp; omega)
      intro v' w3 hown' hgrow _
      have hbw3 : Below w1.heap.size w1 w3 := below_own (HBW.out.alloc (by omega) _) (HO.out.alloc _) hgrow (Nat.le_refl _) (by simp; omega)
      have HO3 : Hid (OwnB w3 w1.heap.size v' (acc ++ out)) := by
        show w3.ownsRow _ _ _ _ _ _
        rw [List.length_append, show cellsB (acc ++ out) = cellsB acc ++ cellsB out by simp [cellsB]]
        exact hown'
      have HB3 : Hid (Below w1.heap.size w1 w3) := hbw3
      clear hown' hgrow hbw3 c1 c2
      go_wp2
      go_roundw
      case rel => exact ⟨k + 1, by omega, by go_num, by rw [HDT.out]; exact HO3, HB3⟩
      case measure => simp [intOf]; omega
    · have hke : k = fs.length := by omega
      have HF : Hid (dataOf (fs.take k) = dataOf fs) := by show _ = _; rw [hke, List.take_length]
      go_wp2
      go_ret
      exact ⟨_, rfl, by rw [← HF.out]; exact HO.out, HBW.out⟩

set_option maxHeartbeats 1000000 in
theorem dec_said : DecSaid := by
  intro a l cap w hl hb
  have HB : Hid (BytesAt w a l) := hb
  clear hb
  go_enter Tryz.func51, Tryz.ntmps51
  go_wp2_with fail
  refine (sread_calls a l cap w hl HB.out).mono ?_
  rintro e w1 ⟨hb1, ⟨c, hc, rfl, hres⟩ | ⟨fs, v, rfl, hfr, hfl, hdl, hr1, hr2, hr3⟩⟩
  · have HB1 : Hid (Below w.heap.size w w1) := hb1
    have HE : Hid ((rRead l).1 = c) := hres
    have HC : Hid (c ≠ 0) := hc
    have hcb : (c != 0) = true := by simpa using hc
    clear hb1 hres hc
    go_wp2
    go_ret2
    exact ⟨HB1.out, _, [], by rw [HE.out]; rfl, World.ownsRow_nil _ _ _ _, fun h => absurd (HE.out.symm.trans h) HC.out, fun _ => rfl⟩
  · have HB1 : Hid (Below w.heap.size w w1) := hb1
    have HR1 : Hid ((rRead l).1 = 0) := hr1
    have HR3 : Hid ((rRead l).2.2.1 = dataOf fs) := hr3
    obtain ⟨fo, fc, rfl⟩ := row_form hfr.choose_spec.1
    have hs1 := hb1.size
    have HD : Hid _ := dataOf_calls _ fo fc fs w1 hfr hfl hdl
    clear hb1 hfr hr1 hr2 hr3
    go_wp2_with fail
    refine Calls.mono HD.out ?_
    rintro e w2 ⟨v, rfl, hO, hb2⟩
    obtain ⟨vo, vc, rfl⟩ := hO.form
    have HO : Hid (OwnB w2 w.heap.size (.slice vo (dataOf fs).length vc) (dataOf fs)) := row_le hO hs1
    have HB2 : Hid (Below w.heap.size w w2) := HB1.out.trans (hb2.mono hs1)
    have HR4 : Hid ((rRead l).2.2.1 = dataOf fs) := HR3
    clear hO hb2 HD hdl HR3
    generalize dataOf fs = D at *
    go_wp2
    go_ret2
    exact ⟨HB2.out, _, D, by rw [HR1.out]; rfl, HO.out, fun _ => HR4.out.symm, fun h => absurd HR1.out h⟩

/-- So many pieces' tokens, as cells. -/
def RowsOf (w : World) (B : Nat) (fs : List (List Tok × List UInt8)) (vs : List Value) (k : Nat) : Prop :=
  ∀ i, i < k → ∃ a c, vs[i]? = some (.slice a (fs.getD i ([], [])).1.length c) ∧ TokRow w B (.slice a (fs.getD i ([], [])).1.length c) (fs.getD i ([], [])).1
theorem psOf_getD (fs : List (List Tok × List UInt8)) (i : Nat) (h : i < fs.length) : (psOf fs).getD i [] = (fs.getD i ([], [])).1 := by
  rw [getD_at fs i h]
  simp [psOf, List.getD, h]

set_option maxHeartbeats 1000000 in
theorem unp_said : UnpSaid := by
  intro a l cap w hl hb
  have HB : Hid (BytesAt w a l) := hb
  obtain ⟨i0, hi, hz0, hz1, hz2⟩ := info_parts infoToks
  clear hb
  go_enter Tryz.func49, Tryz.ntmps49
  go_wp2_with fail
  refine (sread_calls a l cap w hl HB.out).mono ?_
  rintro e w1 ⟨hb1, ⟨c, hc, rfl, hres⟩ | ⟨fs, v, rfl, hfr, hfl, hdl, hr1, hr2, hr3⟩⟩
  · have HB1 : Hid (Below w.heap.size w w1) := hb1
    have HE : Hid ((rRead l).1 = c) := hres
    have HC : Hid (c ≠ 0) := hc
    have hcb : (c != 0) = true := by simpa using hc
    clear hb1 hres hc
    go_wp2
    go_ret2
    exact ⟨HB1.out, none, [], 0, by rw [HE.out]; rfl, .inl rfl, by simp, fun h => absurd (HE.out.symm.trans h) HC.out, fun _ => rfl⟩
  · have HB1 : Hid (Below w.heap.size w w1) := hb1
    have HFR : Hid (FramesAt w1 w.heap.size v fs) := hfr
    have HR1 : Hid ((rRead l).1 = 0) := hr1
    have HR2 : Hid ((rRead l).2.1 = psOf fs) := hr2
    obtain ⟨fo, fc, rfl⟩ := row_form hfr.choose_spec.1
    have hs1 := hb1.size
    clear hb1 hfr hr1 hr2 hr3
    go_wp2_with fail
    go_loopw [6, 19] (fun v i wr => ∃ (k : Nat) (vs : List Value), k ≤ fs.length ∧ i = .int .i64 k ∧ Hid (wr.ownsRow w1.heap.size 32 1 v k vs) ∧ Hid (RowsOf w1 w.heap.size fs vs k) ∧ Hid (Below w1.heap.size w1 wr)) (fun _ i _ => fs.length - (intOf i).toNat)
    case atStart => exact ⟨0, [], by omega, rfl, World.ownsRow_nil _ _ _ _, fun i hi => by omega, Below.refl _ _⟩
    case round =>
      obtain ⟨k, vs, hk, rfl, HO, HRW, HBW⟩ := hrel
      have hsw := HBW.out.size
      obtain ⟨vo, vc, rfl⟩ := row_form HO.out
      by_cases hlt : k < fs.length
      · obtain ⟨g, fc', ta, tc, gb, bc, hv, hgl, k1, k2, hT, hO2, h1o, hgb⟩ := HFR.out.at k hlt
        simp at hv
        obtain ⟨rfl, rfl⟩ := hv
        have HT : Hid (TokRow w1 w.heap.size (.slice ta (fs.getD k ([], [])).1.length tc) (fs.getD k ([], [])).1) := hT
        have c1 : wr.cell? ⟨g, k * 2, none⟩ = some (.slice ta (fs.getD k ([], [])).1.length tc) := by rw [HBW.out.cell (p := ⟨g, _, none⟩) hgl]; exact k1
        have c2 : wr.cell? ⟨g, k * 2 + 1, none⟩ = some (.slice (some ⟨gb, 0, none⟩) (fs.getD k ([], [])).2.length bc) := by rw [HBW.out.cell (p := ⟨g, _, none⟩) hgl]; exact k2
        clear k1 k2 hT hO2 h1o
        generalize (fs.getD k ([], [])).2.length = nB at *
        generalize hN : (fs.getD k ([], [])).1.length = nT at *
        have HN : Hid ((fs.getD k ([], [])).1.length = nT) := hN
        clear hN
        go_wp2_with (at_builtin; refine wpList_append_own _ rfl _ _ 27 rfl w1.heap.size 32 i0 (.slice none 0 0) 1 24 Tryz.underlying27 hi hz0 hz1 hz2 rfl (by decide) _ _ _ rfl ((World.ownsRow.alloc HO.out _).alloc _) ⟨wr.heap.size + 1, 0, none⟩ 1 1 [.slice ta nT tc] rfl rfl ?b1 ?b2 ?b3 ?b4 ?b5 ?_)
        case b1 => intro j u hj; exact cell_new1' _ _ (by simp) _ _ j u hj
        case b2 => intro u hu; simp at hu; subst hu; rfl
        case b3 => unfold maxLen; omega
        case b4 => omega
        case b5 => first | omega | (simp; omega)
        intro v' w3 hown' hgrow _
        have hbw3 : Below w1.heap.size w1 w3 := ((HBW.out.alloc (by omega) _).alloc (by simp; omega) _).grown hgrow (by simp; omega) (fun k hk => (World.ownsRow.lt HO.out k hk).1)
        have HO3 : Hid (w3.ownsRow w1.heap.size 32 1 v' (k + 1) (vs ++ [.slice ta nT tc])) := hown'
        have HB3 : Hid (Below w1.heap.size w1 w3) := hbw3
        have HRW3 : Hid (RowsOf w1 w.heap.size fs (vs ++ [.slice ta nT tc]) (k + 1)) := by
          have hvl : vs.length = k * 1 := HO.out.1
          intro i hi
          rcases Nat.lt_or_ge i k with h | h
          · obtain ⟨a', c', h1, h2⟩ := HRW.out i h
            exact ⟨a', c', by rw [List.getElem?_append_left (by omega)]; exact h1, h2⟩
          · have hi' : i = k := by omega
            subst hi'
            exact ⟨ta, tc, by rw [HN.out, List.getElem?_append_right (by omega)]; simp [hvl], by rw [HN.out]; exact HT.out⟩
        clear hown' hgrow hbw3 c1 c2
        go_wp2
        go_roundw
        case rel => exact ⟨k + 1, _, by omega, by go_num, HO3, HRW3, HB3⟩
        case measure => simp [intOf]; omega
      · have hke : k = fs.length := by omega
        subst hke
        have HLS : Hid (Lists wr w.heap.size (psOf fs) [] [] (.slice vo fs.length vc) (.slice none 0 0) (.slice none 0 0)) := by
          have hpl : (psOf fs).length = fs.length := by simp
          refine ⟨⟨vs, ?_, fun i hi => ?_⟩, World.ownsRow_nil _ _ _ _, World.ownsRow_nil _ _ _ _⟩
          · rw [hpl]; exact row_le HO.out hs1
          · rw [hpl] at hi
            obtain ⟨a', c', h1, h2⟩ := HRW.out i hi
            rw [psOf_getD fs i hi]
            exact ⟨a', c', h1, row_below h2 HBW.out⟩
        obtain ⟨pa, pc, hv, hpm, hat⟩ := HLS.out.at
        have HAT : Hid _ := hat
        have HV : Hid _ := hv
        have HPM : Hid _ := hpm
        clear hat hv hpm
        go_wp2
        go_ret2
        exact ⟨HB1.out.trans (HBW.out.mono hs1), pa, psOf fs, pc, by rw [HR1.out, ← HV.out]; rfl, HAT.out, HPM.out, fun _ => by rw [HR2.out], fun h => absurd HR1.out h⟩
end Go.Proofs.YtnpnaglgllcpfaaGreat

/- A row that the call owns, appended to another that it owns; memory but for one block. -/
namespace Go.Proofs.YtnpnaglgllcpfaaGreat
set_option maxRecDepth 100000
open Go.RowKit

theorem grown_refl (w : World) (r : Option Nat) : w.grownBy w r := ⟨rfl, rfl, rfl, Nat.le_refl _, fun _ _ _ => rfl⟩
theorem grown_trans {w w1 w2 : World} {r : Option Nat} (h : w.grownBy w1 r) (k : w1.grownBy w2 r) : w.grownBy w2 r :=
  ⟨k.os.trans h.os, k.tape.trans h.tape, k.output.trans h.output, Nat.le_trans h.size k.size, fun i hi hq => (k.block i (Nat.lt_of_lt_of_le hi h.size) hq).trans (h.block i hi hq)⟩
theorem grown_set {w w' : World} {r : Option Nat} {g : Nat} (h : w.grownBy w' r) (hr : r = some g) (i : Nat) (u : Value) : w.grownBy (w'.setCell ⟨g, i, none⟩ u) r :=
  ⟨h.os, h.tape, h.output, by rw [set_size]; exact h.size, fun k hk hq => by rw [set_other u (by rintro rfl; exact hq hr.symm)]; exact h.block k hk hq⟩
theorem grown_alloc {w w' : World} {r : Option Nat} (h : w.grownBy w' r) (o : Obj) : w.grownBy (w'.alloc o) r :=
  ⟨h.os, h.tape, h.output, by have := h.size; simp; omega, fun k hk hq => by rw [Below.heap_alloc w' o k (Nat.lt_of_lt_of_le hk h.size)]; exact h.block k hk hq⟩
theorem grown_below {w w1 w2 : World} {r : Option Nat} (h : w.grownBy w1 r) (hb : Below w1.heap.size w1 w2) : w.grownBy w2 r :=
  ⟨hb.os.trans h.os, hb.tape.trans h.tape, hb.output.trans h.output, Nat.le_trans h.size hb.size, fun k hk hq => (hb.block k (Nat.lt_of_lt_of_le hk h.size)).trans (h.block k hk hq)⟩

theorem wpList_append_row {P : Program} {w : World} {ops : Array Oper} {rest : List Oper} {o : Oper} {a : Act} {Q : Exit → Act → World → Prop} (hgd : o.guard = none) (s x : Operand) (t : TypeId)
    (ho : o.op = .call { callee := .builtin .append, args := #[s, x], argTypes := #[t, t] })
    (base : Nat) (e : TypeId) (i : TypeInfo) (z : Value) (size bytes : Nat) (ht : P.underlying t = some (.slice e)) (hi : P.info? e = some i) (hz : i.zero = some z)
    (hsize : i.size = size) (hby : i.bytes = bytes) (hzs : z.cells.size = size) (hsz : 0 < size)
    (v : Value) (n : Nat) (xs : List Value) (hs : a.eval s = v) (hown : w.ownsRow base e size v n xs)
    (B' : Nat) (sv : Value) (m : Nat) (news : List Value) (hx : a.eval x = sv) (hsrc : w.ownsRow B' e size sv m news) (h1 : ∀ u ∈ news, u.oneCell' = true)
    (h63 : n + m ≤ maxLen) (hbytes : (n + m) * bytes ≤ 140737488355328) (hbase : base ≤ w.heap.size)
    (h : ∀ v' w', w'.ownsRow base e size v' (n + m) (xs ++ news) → w.grownBy w' v.ownBlock → wpList P ops Q rest (a.put o.dst v') w') : wpList P ops Q (o :: rest) a w := by
  have hsrc' := hsrc
  obtain ⟨hl, ⟨rfl, rfl⟩ | ⟨g, c, cur, rfl, hb, hg, _⟩⟩ := hsrc
  · have hn : news = [] := List.eq_nil_of_length_eq_zero (by omega)
    subst hn
    refine wpList_append_own_none hgd s x t ho base e i size ht hi v n xs hs hown hx (h v w ?_ (grown_refl _ _))
    simpa using hown
  · exact wpList_append_own w hgd s x t ho base e i z size bytes ht hi hz hsize hby hzs hsz v n xs hs hown ⟨g, 0, none⟩ m c news hx hl (fun j u hj => World.ownsRow.cells hsrc' (g := g) rfl j u hj) h1 h63 hbytes hbase (fun v' w' k1 k2 _ => h v' w' k1 k2)
end Go.Proofs.YtnpnaglgllcpfaaGreat

/- What is written down is read again: plain facts, of no program. -/
namespace Go.Proofs.YtnpnaglgllcpfaaGreat
set_option maxRecDepth 100000

theorem bin_add (c x m : Nat) : ∀ n, n ≤ m → bin (c * 2 ^ m + x) n = bin x n
  | 0, _ => rfl
  | n + 1, h => by
    simp only [bin]
    rw [bin_add c x m n (by omega)]
    congr 2
    have e : c * 2 ^ m = 2 ^ n * (2 * (c * 2 ^ (m - n - 1))) := by
      have : 2 ^ m = 2 ^ n * (2 * 2 ^ (m - n - 1)) := by
        rw [← Nat.pow_succ', ← Nat.pow_add]
        congr 1; omega
      rw [this]
      simp only [Nat.mul_left_comm]
    rw [e, Nat.mul_add_div (Nat.pow_pos (by omega))]
    omega
theorem bin_valB : ∀ l : List Bool, bin (valB l) l.length = l
  | [] => rfl
  | b :: l => by
    rw [valB_cons, List.length_cons]
    simp only [bin]
    rw [bin_add _ _ _ _ (Nat.le_refl _), bin_valB l]
    congr 1
    have hp : 0 < 2 ^ l.length := Nat.pow_pos (by omega)
    have hd : (b.toNat * 2 ^ l.length + valB l) / 2 ^ l.length = b.toNat := by
      rw [Nat.mul_comm, Nat.mul_add_div hp, Nat.div_eq_of_lt (valB_lt l)]; omega
    rw [hd]
    cases b <;> rfl
theorem bitsIn_append (a b : List UInt8) : bitsIn (a ++ b) = bitsIn a ++ bitsIn b := by simp [bitsIn]
theorem bitsIn_toBytes : ∀ (n : Nat) (L : List Bool), L.length = 8 * n → bitsIn (toBytes L) = L
  | 0, L, h => by
    have : L = [] := List.eq_nil_of_length_eq_zero (by omega)
    subst this; rfl
  | n + 1, L, h => by
    have e : L = L.take 8 ++ L.drop 8 := (List.take_append_drop _ _).symm
    have h8 : (L.take 8).length = 8 := by rw [List.length_take]; omega
    conv => lhs; rw [e]
    rw [toBytes_append _ _ (by rw [h8]), bitsIn_append, bitsIn_toBytes n (L.drop 8) (by rw [List.length_drop]; omega), toBytes_eight _ h8]
    have hv := valB_byte (L.take 8) (by omega)
    have e2 : bitsIn [UInt8.ofNat (valB (L.take 8))] = L.take 8 := by
      simp only [bitsIn, List.flatMap_cons, List.flatMap_nil, List.append_nil]
      have : (UInt8.ofNat (valB (L.take 8))).toNat = valB (L.take 8) := by simp; omega
      rw [this]
      have := bin_valB (L.take 8)
      rwa [h8] at this
    rw [e2]
    exact e.symm

theorem rNum_noughts (e : Int) (X : List Bool) : ∀ j k, k + j ≤ 6 → rNum e k (List.replicate j false ++ true :: X) = rNum e (k + j) (true :: X)
  | 0, k, _ => rfl
  | j + 1, k, h => by
    rw [List.replicate_succ, List.cons_append]
    simp only [rNum]
    rw [if_neg (by omega), rNum_noughts e X j (k + 1) (by omega)]
    rw [show k + 1 + j = k + (j + 1) by omega]
    rfl
theorem rNum_bits (e : Int) (v : Nat) (h1 : 1 ≤ v) (h2 : v ≤ 127) (R : List Bool) : rNum e 0 (numBits v ++ R) = .ok (v, R) := by
  have hz : Nat.log2 v ≤ 6 := by
    have : Nat.log2 v < 7 := (Nat.log2_lt (by omega)).2 (by omega)
    omega
  obtain ⟨k1, k2⟩ := (Nat.log2_eq_iff (k := Nat.log2 v) (show v ≠ 0 by omega)).1 rfl
  have hp : 0 < 2 ^ Nat.log2 v := Nat.pow_pos (by omega)
  have hd : v / 2 ^ Nat.log2 v = 1 := by
    rw [Nat.pow_succ] at k2
    exact Nat.div_eq_of_lt_le (by omega) (by omega)
  unfold numBits
  generalize hzz : Nat.log2 v = z at *
  simp only [bin]
  rw [hd, List.append_assoc, show ((1 % 2 == 1) = true) from rfl, List.cons_append, rNum_noughts e _ z 0 (by omega), Nat.zero_add]
  simp only [rNum]
  rw [if_neg (by rw [List.length_append, bin_length]; omega), List.take_left' (bin_length v z), List.drop_left' (bin_length v z), bin_val]
  have := Nat.div_add_mod v (2 ^ z)
  rw [hd] at this
  congr 2
  omega

theorem rTok_bits (t : Tok) (made left : Nat) (hf : Tok.fitsB t made = true) (hl : t.len ≤ left) (hml : left ≤ 64) (R : List Bool) : rTok made left (Tok.bits t ++ R) = .ok (t, R) := by
  rw [Tok.fits_iff] at hf
  obtain ⟨l, d, x⟩ := t
  simp only at hf hl
  obtain ⟨⟨e1, e2, e3, e4⟩ | ⟨e1, e2, e3, e4⟩, h2, h3⟩ := hf
  · have hb : Tok.bits ⟨l, d, x⟩ = false :: bin x.toNat 8 := by unfold Tok.bits; exact if_pos e1
    rw [hb, List.cons_append]
    simp only [rTok]
    rw [if_neg (by rw [List.length_append, bin_length]; omega), List.take_left' (bin_length _ 8), List.drop_left' (bin_length _ 8), bin_val]
    have : ((x.toNat % 2 ^ 8 : Nat) : Int) = x := by omega
    rw [this, e1, e2]
  · have hb : Tok.bits ⟨l, d, x⟩ = true :: (numBits (l - 1).toNat ++ numBits d.toNat) := by unfold Tok.bits; exact if_neg (show ¬ d = 0 by omega)
    rw [hb, List.cons_append, List.append_assoc]
    simp only [rTok]
    rw [rNum_bits 6 (l - 1).toNat (by omega) (by omega)]
    simp only
    rw [if_neg (by omega), rNum_bits 6 d.toNat (by omega) (by omega)]
    simp only
    rw [if_neg (by omega)]
    have q1 : (((l - 1).toNat : Nat) : Int) + 1 = l := by omega
    have q2 : ((d.toNat : Nat) : Int) = d := by omega
    rw [q1, q2, e4]

theorem expand_length : ∀ (ts : List Tok) (out o : List UInt8), Tok.expand out ts = some o → out.length ≤ o.length := fun ts out o h => by
  have := Tok.expand_many ts out o h; omega
theorem rToks_bits (n : Nat) (hn : n ≤ 64) (R : List Bool) : ∀ (ts : List Tok) (f made : Nat) (out o : List UInt8), Tok.expand out ts = some o → out.length = made → o.length = n → ts.length ≤ f → rToks n f made (bitsOf ts ++ R) = .ok (ts, R)
  | [], f, made, out, o, he, hm, ho, _ => by
    simp [Tok.expand] at he
    subst he
    have := rToks_done (n := n) (f := f) (made := made) (R := R) [] (by omega)
    rw [pre_nil] at this
    simpa [bitsOf] using this
  | t :: ts, f, made, out, o, he, hm, ho, hf => by
    simp only [Tok.expand] at he
    split at he
    · rename_i hfit
      have hsl := Tok.step_length out t _ hfit
      have hol := expand_length ts _ o he
      have hff := (Tok.fits_iff _ _).1 hfit
      rw [hm] at hfit
      obtain ⟨f, rfl⟩ : ∃ f', f = f' + 1 := ⟨f - 1, by simp at hf; omega⟩
      have hlt : made < n := by omega
      have e : bitsOf (t :: ts) ++ R = Tok.bits t ++ (bitsOf ts ++ R) := by simp [bitsOf]
      have ht := rTok_bits t made (n - made) hfit (by omega) (by omega) (bitsOf ts ++ R)
      have hnx := rToks_next (f := f) [] hlt ht
      rw [pre_nil] at hnx
      rw [e, hnx, rToks_bits n hn R ts f (made + t.len.toNat) (Tok.step out t) o he (by omega) ho (by simp at hf; omega)]
      rfl
    · cases he

/-- What stands behind a frame's tokens. -/
def tailBits (ts : List Tok) (out : List UInt8) : List Bool := List.replicate (padN (numBits (out.length + 1) ++ bitsOf ts).length) false ++ (bin (Plain.total out % 256).toNat 8 ++ bin (Plain.total out / 256).toNat 8)
theorem frame_split (ts : List Tok) (out : List UInt8) : frameBits ts out = numBits (out.length + 1) ++ (bitsOf ts ++ tailBits ts out) := by
  unfold frameBits tailBits fill
  simp only [List.append_assoc]
theorem rFrame_bits (ts : List Tok) (out R : List UInt8 × List Bool) (he : Tok.expand [] ts = some out.1) (h1 : out.1.length ≤ 64) (hR : R.2.length % 8 = 0) : rFrame out.1.length (bitsOf ts ++ (tailBits ts out.1 ++ R.2)) = .ok (ts, R.2) := by
  have htk := rToks_bits out.1.length h1 (tailBits ts out.1 ++ R.2) ts out.1.length 0 [] out.1 he rfl rfl (by have := Tok.expand_many ts [] out.1 he; simpa using this)
  have hpn : padN (numBits (out.1.length + 1) ++ bitsOf ts).length < 8 := by unfold padN; omega
  have htr := total_range out.1
  unfold tailBits at *
  generalize padN (numBits (out.1.length + 1) ++ bitsOf ts).length = p at *
  simp only [rFrame, htk]
  have hlen : (List.replicate p false ++ (bin (Plain.total out.1 % 256).toNat 8 ++ bin (Plain.total out.1 / 256).toNat 8) ++ R.2).length % 8 = p := by
    simp only [List.length_append, List.length_replicate, bin_length]; omega
  have hpad : padB (List.replicate p false ++ (bin (Plain.total out.1 % 256).toNat 8 ++ bin (Plain.total out.1 / 256).toNat 8) ++ R.2) = true := by
    unfold padB
    rw [hlen, List.append_assoc, List.take_left' (List.length_replicate ..)]
    simp
  have hdrop : (List.replicate p false ++ (bin (Plain.total out.1 % 256).toNat 8 ++ bin (Plain.total out.1 / 256).toNat 8) ++ R.2).drop p = bin (Plain.total out.1 % 256).toNat 8 ++ (bin (Plain.total out.1 / 256).toNat 8 ++ R.2) := by
    rw [List.append_assoc, List.drop_left' (List.length_replicate ..), List.append_assoc]
  rw [hpad, hlen, hdrop, if_neg (by simp), if_neg (by simp only [List.length_append, bin_length]; omega), List.take_left' (bin_length _ 8), List.drop_left' (bin_length _ 8), List.take_left' (bin_length _ 8), bin_val, bin_val, he]
  have hsum : ((((Plain.total out.1 % 256).toNat % 2 ^ 8 : Nat) : Int) + 256 * (((Plain.total out.1 / 256).toNat % 2 ^ 8 : Nat) : Int)) = Plain.total ((some out.1).getD []) := by
    simp only [Option.getD_some]
    omega
  rw [if_neg (fun h => h hsum)]
  have hd16 : (bin (Plain.total out.1 % 256).toNat 8 ++ (bin (Plain.total out.1 / 256).toNat 8 ++ R.2)).drop 16 = R.2 := by
    rw [← List.append_assoc]
    exact List.drop_left' (by rw [List.length_append, bin_length, bin_length])
  rw [hd16]

theorem rMain_frame (L : List Bool) (f : Nat) (ps : List (List Tok)) (data : List UInt8) (ends : List Nat) (ts : List Tok) (out : List UInt8) (R : List Bool) (he : Tok.expand [] ts = some out) (h0 : 1 ≤ out.length) (h1 : out.length ≤ 64) (hR : R.length % 8 = 0) (hd : data.length = 64 * ps.length) :
    rMain L (f + 1) ps data ends (frameBits ts out ++ R) = rMain L f (ps ++ [ts]) (data ++ out) (ends ++ [(L.length - R.length) / 8]) R := by
  have hm : made ts = out := by simp [made, he]
  rw [frame_split, List.append_assoc, List.append_assoc]
  simp only [rMain]
  rw [rNum_bits 5 (out.length + 1) (by omega) (by omega)]
  simp only
  have hfr := rFrame_bits ts (out, []) ([], R) he h1 hR
  simp only at hfr
  rw [if_neg (by omega), if_neg (by omega), Nat.add_sub_cancel, hfr]
  simp only [hm]
theorem rMain_stop (L : List Bool) (f : Nat) (ps : List (List Tok)) (data : List UInt8) (ends : List Nat) : rMain L (f + 1) ps data ends endBits = (0, ps, data, ends) := by
  have : endBits = numBits 1 ++ List.replicate 7 false := rfl
  rw [this]
  simp only [rMain]
  rw [rNum_bits 5 1 (by omega) (by omega)]
  rfl
end Go.Proofs.YtnpnaglgllcpfaaGreat

/- A whole stream that was written down is read again: plain facts, of no program. -/
namespace Go.Proofs.YtnpnaglgllcpfaaGreat
set_option maxRecDepth 100000

def framesOf (ps : List (List Tok)) : List Bool := ps.flatMap fun ts => frameBits ts (made ts)
theorem frames_all (ps : List (List Tok)) : frames ps ps.length = framesOf ps := by unfold frames framesOf; rw [List.take_length]
theorem framesOf_full (ps : List (List Tok)) : (framesOf ps).length % 8 = 0 := by
  rw [← frames_all]; exact frames_full ps _
theorem endBits_length : endBits.length = 8 := rfl

theorem okAt_facts {n k : Nat} {ts : List Tok} (h : okAt n k ts = true) : Tok.expand [] ts = some (made ts) ∧ 1 ≤ (made ts).length ∧ (made ts).length ≤ 64 ∧ ((made ts).length = 64 ∨ k + 1 = n) := by
  obtain ⟨out, h1, h2, h3, _⟩ := ok_facts (okAt_ok h)
  rw [h2]
  refine ⟨h1, ?_, h3, ?_⟩
  · unfold okAt at h
    simp [h2] at h
    omega
  · unfold okAt at h
    simp [h2] at h
    omega

theorem rMain_frames (L : List Bool) : ∀ (qs ps : List (List Tok)) (f : Nat) (data : List UInt8) (ends : List Nat), (∀ i, i < qs.length → okAt (ps.length + qs.length) (ps.length + i) (qs.getD i []) = true) → (data.length = 64 * ps.length ∨ qs = []) → qs.length + 1 ≤ f →
    ∃ en, rMain L f ps data ends (framesOf qs ++ endBits) = (0, ps ++ qs, data ++ qs.flatMap made, en)
  | [], ps, f, data, ends, _, _, hf => by
    obtain ⟨f, rfl⟩ : ∃ f', f = f' + 1 := ⟨f - 1, by simp at hf; omega⟩
    refine ⟨ends, ?_⟩
    have := rMain_stop L f ps data ends
    simpa [framesOf] using this
  | ts :: qs, ps, f, data, ends, hok, hd, hf => by
    obtain ⟨f, rfl⟩ : ∃ f', f = f' + 1 := ⟨f - 1, by simp at hf; omega⟩
    replace hd : data.length = 64 * ps.length := hd.resolve_right (by simp)
    have h0 := okAt_facts (hok 0 (by simp))
    simp only [List.getD_cons_zero] at h0
    obtain ⟨h1, h2, h3, h4⟩ := h0
    have e : framesOf (ts :: qs) ++ endBits = frameBits ts (made ts) ++ (framesOf qs ++ endBits) := by simp [framesOf]
    have hR : (framesOf qs ++ endBits).length % 8 = 0 := by
      have := framesOf_full qs
      rw [List.length_append, endBits_length]; omega
    rw [e, rMain_frame L f ps data ends ts (made ts) _ h1 h2 h3 hR hd]
    obtain ⟨en, hen⟩ := rMain_frames L qs (ps ++ [ts]) f (data ++ made ts) (ends ++ [(L.length - (framesOf qs ++ endBits).length) / 8]) (fun i hi => by
      have := hok (i + 1) (by simp; omega)
      rw [List.getD_cons_succ] at this
      simp only [List.length_append, List.length_cons, List.length_nil] at this ⊢
      rwa [show ps.length + (0 + 1) + qs.length = ps.length + (qs.length + 1) by omega, show ps.length + (0 + 1) + i = ps.length + (i + 1) by omega]) (by
      rcases h4 with h4 | h4
      · left; simp; omega
      · right; exact List.eq_nil_of_length_eq_zero (by simp only [List.length_cons] at h4; omega)) (by simp at hf; omega)
    exact ⟨en, by rw [hen]; simp⟩

theorem rMagic_bits (R : List Bool) : rMagic [80, 90, 49] (magicBits ++ R) = .ok R := by
  have h : ∀ (b : Nat) (bs : List Nat) (X : List Bool), b < 256 → rMagic (b :: bs) (bin b 8 ++ X) = rMagic bs X := fun b bs X hb => by
    simp only [rMagic]
    rw [if_neg (by rw [List.length_append, bin_length]; omega), List.take_left' (bin_length _ 8), List.drop_left' (bin_length _ 8), bin_val, if_pos (by omega)]
  unfold magicBits
  rw [List.append_assoc, List.append_assoc, h 80 _ _ (by omega), h 90 _ _ (by omega), h 49 _ _ (by omega)]
  rfl

def streamBits (ps : List (List Tok)) : List Bool := magicBits ++ frames ps ps.length ++ endBits
theorem streamBits_full (ps : List (List Tok)) : (streamBits ps).length % 8 = 0 := by
  have := frames_full ps ps.length
  unfold streamBits
  rw [List.length_append, List.length_append, endBits_length, magic_length]
  omega

/-- What Pack writes is read again. -/
theorem rRead_stream (ps : List (List Tok)) (hok : ∀ i, i < ps.length → okAt ps.length i (ps.getD i []) = true) (hl : (streamBits ps).length ≤ 32768) :
    ∃ en, rRead (toBytes (streamBits ps)) = (0, ps, ps.flatMap made, en) := by
  have hf := streamBits_full ps
  have hb : bitsIn (toBytes (streamBits ps)) = streamBits ps := bitsIn_toBytes ((streamBits ps).length / 8) _ (by omega)
  have hlen := toBytes_length (streamBits ps)
  unfold rRead
  rw [if_neg (by omega), hb]
  have hm : rMagic [80, 90, 49] (streamBits ps) = .ok (framesOf ps ++ endBits) := by
    unfold streamBits
    rw [frames_all, List.append_assoc, rMagic_bits]
  rw [hm]
  simp only
  have hcount : ∀ qs : List (List Tok), qs.length ≤ (framesOf qs).length := fun qs => by
    induction qs with
    | nil => simp
    | cons t qs ih =>
      have : 1 ≤ (frameBits t (made t)).length := by
        rw [frame_split]
        unfold tailBits
        simp only [List.length_append, bin_length]
        omega
      simp only [framesOf, List.flatMap_cons, List.length_append, List.length_cons] at *
      omega
  have hc : ps.length + 1 ≤ (streamBits ps).length + 1 := by
    have := hcount ps
    unfold streamBits
    rw [frames_all, List.length_append, List.length_append]
    omega
  obtain ⟨en, hen⟩ := rMain_frames (streamBits ps) ps [] ((streamBits ps).length + 1) [] [] (fun i hi => by simpa using hok i hi) (.inl rfl) hc
  exact ⟨en, by simpa using hen⟩
end Go.Proofs.YtnpnaglgllcpfaaGreat

/- What the program's Decoder does: Feed and End, of what it holds in memory. -/
namespace Go.Proofs.YtnpnaglgllcpfaaGreat
set_option maxRecDepth 100000
open Go.RowKit

theorem cellsB_one (l : List UInt8) : ∀ u ∈ cellsB l, u.oneCell' = true := by
  intro u hu; simp [cellsB] at hu; obtain ⟨_, _, rfl⟩ := hu; rfl
/-- Bytes in memory, appended to a row of bytes that the call owns. -/
theorem wpList_append_bytes {w : World} {ops : Array Oper} {rest : List Oper} {o : Oper} {a : Act} {Q : Exit → Act → World → Prop} (hgd : o.guard = none) (s x : Operand)
    (ho : o.op = .call { callee := .builtin .append, args := #[s, x], argTypes := #[37, 37] })
    (base : Nat) (v : Value) (out : List UInt8) (hs : a.eval s = v) (hown : OwnB w base v out)
    (sa : Option Addr) (l : List UInt8) (cap : Nat) (hx : a.eval x = .slice sa l.length cap) (hb : BytesAt w sa l) (hc : sa = none → l.length = 0 ∧ cap = 0)
    (h63 : out.length + l.length ≤ 140737488355328) (hbase : base ≤ w.heap.size)
    (h : ∀ v' w', OwnB w' base v' (out ++ l) → w.grownBy w' v.ownBlock → wpList Tryz.prog ops Q rest (a.put o.dst v') w') : wpList Tryz.prog ops Q (o :: rest) a w := by
  obtain ⟨i0, hi, hz0, hz1, hz2⟩ := info_parts info8
  rcases sa with _ | ad
  · obtain ⟨h0, rfl⟩ := hc rfl
    obtain rfl : l = [] := List.eq_nil_of_length_eq_zero h0
    refine wpList_append_own_none hgd s x 37 ho base 5 i0 1 Tryz.underlying37 hi v out.length (cellsB out) hs hown hx (h v w ?_ (grown_refl _ _))
    rw [List.append_nil]; exact hown
  · refine wpList_append_own w hgd s x 37 ho base 5 i0 (.int .u8 0) 1 1 Tryz.underlying37 hi hz0 hz1 hz2 rfl (by decide) v out.length (cellsB out) hs hown ad l.length cap (cellsB l) hx (by simp [cellsB]) ?_ (cellsB_one l) (by unfold maxLen; omega) (by omega) hbase (fun v' w' k1 k2 _ => h v' w' ?_ k2)
    · intro j u hj
      rcases hb with rfl | ⟨b, off, h1, h2⟩
      · simp [cellsB] at hj
      · have hjl : j < l.length := by
          have := (List.getElem?_eq_some_iff.1 hj).1
          simpa [cellsB] using this
        simp at h1
        subst h1
        have hadd : (⟨b, off, none⟩ : Addr).add j = ⟨b, off + j, none⟩ := by unfold Addr.add; split <;> simp_all
        rw [hadd, h2 j hjl]
        simp [cellsB, hjl] at hj
        rw [← hj]
        simp [List.getD, hjl]
    · show w'.ownsRow _ _ _ _ _ _
      rw [List.length_append, show cellsB (out ++ l) = cellsB out ++ cellsB l by simp [cellsB]]
      exact k1

set_option maxHeartbeats 1000000 in
theorem joined_calls (aa ab : Option Addr) (la lb : List UInt8) (ca cb : Nat) (w : World) (ha : BytesAt w aa la) (hb : BytesAt w ab lb) (hca : aa = none → la.length = 0 ∧ ca = 0) (hcb : ab = none → lb.length = 0 ∧ cb = 0) (hla : la.length ≤ 5000) (hlb : lb.length ≤ 5000) :
    Calls Tryz.prog 78 #[.slice aa la.length ca, .slice ab lb.length cb] w fun e w' => ∃ v, e = .returned v ∧ OwnB w' w.heap.size v (la ++ lb) ∧ Below w.heap.size w w' := by
  have HA : Hid (BytesAt w aa la) := ha
  have HB : Hid (BytesAt w ab lb) := hb
  have HCA : Hid (aa = none → la.length = 0 ∧ ca = 0) := hca
  have HCB : Hid (ab = none → lb.length = 0 ∧ cb = 0) := hcb
  clear ha hb hca hcb
  go_enter Tryz.func78, Tryz.ntmps78
  go_wp2_with (at_builtin; refine wpList_append_bytes rfl _ _ rfl w.heap.size _ [] rfl (World.ownsRow_nil _ _ _ _) aa la ca rfl HA.out HCA.out ?b1 ?b2 ?_)
  case b1 => simp; omega
  case b2 => simp
  intro v1 w1 hv1 hg1
  have HB1 : Hid (Below w.heap.size w w1) := (Below.refl _ _).grown hg1 (Nat.le_refl _) (fun k hk => by simp [Value.ownBlock] at hk)
  have HV1 : Hid (OwnB w1 w.heap.size v1 la) := hv1
  obtain ⟨o1, c1, rfl⟩ := hv1.form
  have hs1 := HB1.out.size
  clear hv1 hg1
  go_wp2_with (at_builtin; refine wpList_append_bytes rfl _ _ rfl w.heap.size _ la rfl HV1.out ab lb cb rfl (bytesAt_below HB.out HB1.out) HCB.out ?d1 ?d2 ?_)
  case d1 => omega
  case d2 => exact hs1
  intro v2 w2 hv2 hg2
  have HB2 : Hid (Below w.heap.size w w2) := HB1.out.grown hg2 hs1 (fun k hk => (World.ownsRow.lt HV1.out k hk).1)
  have HV2 : Hid (OwnB w2 w.heap.size v2 (la ++ lb)) := hv2
  clear hv2 hg2
  obtain ⟨o2, c2, rfl⟩ := HV2.out.form
  generalize hab : la ++ lb = lab at *
  have HAB : Hid (la ++ lb = lab) := hab
  clear hab
  go_wp2
  go_ret
  exact ⟨_, rfl, by rw [HAB.out]; exact HV2.out, HB2.out⟩

theorem penta_cell {w : World} {q : Nat} {a b c d e : Value} {t : TypeId} (h : w.heap[q]? = some (.cells #[a, b, c, d, e] t (0, 0))) :
    (w.cell? ⟨q, 0, none⟩ = some a ∧ w.cell? ⟨q, 1, none⟩ = some b ∧ w.cell? ⟨q, 2, none⟩ = some c ∧ w.cell? ⟨q, 3, none⟩ = some d ∧ w.cell? ⟨q, 4, none⟩ = some e) ∧ (w.frozen? ⟨q, 0, none⟩ = false ∧ w.frozen? ⟨q, 1, none⟩ = false ∧ w.frozen? ⟨q, 2, none⟩ = false ∧ w.frozen? ⟨q, 3, none⟩ = false ∧ w.frozen? ⟨q, 4, none⟩ = false) := by
  simp [World.cell?, World.frozen?, h]
/-- The Decoder in block q: is it open, the error that it keeps, how much was taken, the stage, the rest. -/
abbrev DecBox (w : World) (q : Nat) (o : Bool) (e n s : Int) (v : Value) : Prop := w.heap[q]? = some (.cells #[.bool o, .int .i64 e, .int .i64 n, .int .i64 s, v] 86 (0, 0))
theorem set5 {w : World} {q : Nat} {a b c d e : Value} {t : TypeId} (h : w.heap[q]? = some (.cells #[a, b, c, d, e] t (0, 0))) (a' b' c' d' e' : Value) :
    (((((w.setCell ⟨q, 0, none⟩ a').setCell ⟨q, 1, none⟩ b').setCell ⟨q, 2, none⟩ c').setCell ⟨q, 3, none⟩ d').setCell ⟨q, 4, none⟩ e').heap[q]? = some (.cells #[a', b', c', d', e'] t (0, 0)) :=
  set_block (i := 4) (set_block (i := 3) (set_block (i := 2) (set_block (i := 1) (set_block (i := 0) h a') b') c') d') e'
theorem fail_calls (q : Nat) (c n s x : Int) (o : Bool) (so : Option Addr) (sl sc : Nat) (w : World) (h : DecBox w q o c n s (.slice so sl sc)) :
    Calls Tryz.prog 77 #[.pointer (some ⟨q, 0, none⟩), .int .i64 x] w fun e w' => e = .returned (.tuple #[]) ∧ DecBox w' q true x 0 0 (.slice none 0 0) ∧ OneKept w w' q := by
  obtain ⟨⟨c0, c1, c2, c3, c4⟩, f0, f1, f2, f3, f4⟩ := penta_cell h
  have HF : Hid _ := set5 h (.bool true) (.int .i64 x) (.int .i64 0) (.int .i64 0) (.slice none 0 0)
  clear h
  go_enter Tryz.func77, Tryz.ntmps77
  go_wp2
  go_end0
  exact ⟨rfl, HF.out, ((((OneKept.refl _ _).set _).set _).set _).set _ |>.set _⟩

theorem newDecoder_calls (w : World) : Calls Tryz.prog 17 #[] w fun e w' => e = .returned (.pointer (some ⟨w.heap.size, 0, none⟩)) ∧ Below w.heap.size w w' ∧ w'.heap.size = w.heap.size + 1 ∧ DecBox w' w.heap.size true 0 0 0 (.slice none 0 0) := by
  go_enter Tryz.func17, Tryz.ntmps17
  go_wp2
  go_ret
  exact ⟨rfl, (Below.refl _ _).alloc (Nat.le_refl _) _, by simp, heap_alloc_new w _⟩
end Go.Proofs.YtnpnaglgllcpfaaGreat
