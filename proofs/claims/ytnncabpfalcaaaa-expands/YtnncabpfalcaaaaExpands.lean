/-
  The law Expands returns true of every list of tokens: Expand and Cost answer as the document says, of any tokens.
-/
import Derived.Test.YtnncabpfalcaaaaMake
import Derived.Test.YtnncabpfalcaaaaOpenToks
import Derived.Test.YtnncabpfalcaaaaConv
import Derived.Laws.IdiomStrings
import Derived.Laws.BytesArg
namespace Go.Proofs.Ytnncabpfalcaaaa
set_option maxRecDepth 100000
open Go.ChangeShapes Go.WideShapes Go.ChangeAt Go.RowKit

set_option maxHeartbeats 400000 in
theorem refCost_calls (a : Option Addr) (ts : List Tok) (cap : Nat) (w : World) (hl : ts.length ≤ 64) (ht : ToksAt w a ts) (hp : ∀ t ∈ ts, Tok.plainB t ∧ Tok.cost t ≤ 31) :
    Calls Try.prog 26 #[.slice a ts.length cap] w fun e w' => e = .returned (.int .i64 (Tok.costs ts)) ∧ Below w.heap.size w w' := by
  have HT : Hid (ToksAt w a ts) := ht
  have HP : Hid (∀ t ∈ ts, Tok.plainB t ∧ Tok.cost t ≤ 31) := hp
  clear ht hp
  go_enter Try.func26, Try.ntmps26
  go_wp2
  go_loopw [3, 4] (fun c i wr => ∃ (k : Nat), k ≤ ts.length ∧ i = .int .i64 k ∧ c = .int .i64 (Tok.costs (ts.take k)) ∧ Below w.heap.size w wr) (fun _ i _ => ts.length - (intOf i).toNat)
  case atStart => exact ⟨0, Nat.zero_le _, rfl, rfl, Below.refl _ _⟩
  case round =>
    obtain ⟨k, hk, rfl, rfl, hb⟩ := hrel
    have hle : Tok.costs (ts.take k) ≤ 31 * k := by
      have := Tok.costs_le (ts.take k) fun t ht => HP.out t (List.mem_of_mem_take ht)
      rw [List.length_take] at this; omega
    by_cases hlt : k < ts.length
    · obtain ⟨b, off, ha, hbl, hcell⟩ : ∃ b off, a = some ⟨b, off, none⟩ ∧ b < wr.heap.size ∧ ∀ i (hi : i < ts.length),
          wr.cell? ⟨b, off + i * 3, none⟩ = some (.int .i64 ts[i].len) ∧ wr.cell? ⟨b, off + i * 3 + 1, none⟩ = some (.int .i64 ts[i].dist) ∧ wr.cell? ⟨b, off + i * 3 + 2, none⟩ = some (.int .i64 ts[i].byte) := by
        rcases HT.out.below hb with h | h
        · rw [h] at hlt; simp at hlt
        · exact h
      subst ha
      obtain ⟨c0, c1, c2⟩ := hcell k hlt
      clear hcell
      have HC : Tok.costs (ts.take (k + 1)) = Tok.costs (ts.take k) + Tok.cost ts[k] := by rw [Tok.take_snoc ts k hlt, Tok.costs_snoc]
      have hpl := HP.out ts[k] (List.getElem_mem hlt)
      generalize ts[k] = t at *
      obtain ⟨l, d, x⟩ := t
      simp only at c0 c1 c2
      obtain ⟨hpl, hcl⟩ := hpl
      have hsz : Hid ((text (Tok.bits ⟨l, d, x⟩)).size = Tok.cost ⟨l, d, x⟩) := by
        show _ = _
        rw [← Tok.bits_length]; simp [text, ByteArray.size, chars_length]
      generalize hC : Tok.costs (ts.take k) = C at *
      have HC' : Hid _ := HC
      have HC0 : Hid _ := hC
      clear HC hC
      go_wp2_with fail
      refine (bits_calls l d x _ hpl).mono ?_
      rintro e w1 ⟨rfl, hb1⟩
      have hbw : Below w.heap.size w w1 := hb.trans (hb1.mono hb.size)
      have hs' : (text (Tok.bits ⟨l, d, x⟩)).size ≤ 31 := by rw [hsz.out]; exact hcl
      generalize text (Tok.bits ⟨l, d, x⟩) = s at *
      clear hb1
      go_wp2
      go_roundw
      case rel => exact ⟨k + 1, by omega, by go_num, by rw [HC'.out, ← hsz.out]; go_num, hbw⟩
      case measure => simp [intOf]; omega
    · have hke : k = ts.length := by omega
      have HC : Hid (Tok.costs (ts.take k) = Tok.costs ts) := by rw [hke, List.take_length]; rfl
      clear hke
      generalize hC : Tok.costs (ts.take k) = C at *
      clear hC
      go_wp2
      go_ret
      exact ⟨ret_i64 (by rw [← HC.out]), hb⟩

theorem pressExpand_calls (a : Option Addr) (ts : List Tok) (cap : Nat) (w : World) (hl : ts.length ≤ 9223372036854775807) (ht : ToksAt w a ts) :
    Calls Try.prog 22 #[.slice a ts.length cap] w fun e w' => Below w.heap.size w w' ∧
      ((Tok.expand [] ts = none ∧ e = .returned (.tuple #[.slice none 0 0, .int .i64 2])) ∨
       ∃ out v, Tok.expand [] ts = some out ∧ out.length ≤ 64 ∧ e = .returned (.tuple #[v, .int .i64 0]) ∧ OwnB w' w.heap.size v out) := by
  have HT : Hid (ToksAt w a ts) := ht
  clear ht
  go_enter Try.func22, Try.ntmps22
  go_wp2_with fail
  refine (expand_calls a ts cap w hl HT.out).mono ?_
  rintro e w1 ⟨hb, ⟨he, rfl⟩ | ⟨out, v, he, ho, rfl, hown⟩⟩
  · have HE : Hid _ := he
    clear he
    go_wp2
    go_ret2
    exact ⟨hb, .inl ⟨HE.out, rfl⟩⟩
  · have HE : Hid _ := he
    have HO : Hid _ := hown
    clear he hown
    go_wp2
    go_ret2
    exact ⟨hb, .inr ⟨out, v, HE.out, ho, rfl, HO.out⟩⟩

theorem pressCost_calls (a : Option Addr) (ts : List Tok) (cap : Nat) (w : World) (hl : ts.length ≤ 9223372036854775807) (ht : ToksAt w a ts) :
    Calls Try.prog 23 #[.slice a ts.length cap] w fun e w' => Below w.heap.size w w' ∧
      ((Tok.expand [] ts = none ∧ e = .returned (.tuple #[.int .i64 0, .int .i64 2])) ∨
       ∃ out, Tok.expand [] ts = some out ∧ e = .returned (.tuple #[.int .i64 (Tok.costs ts), .int .i64 0])) := by
  have HT : Hid (ToksAt w a ts) := ht
  clear ht
  go_enter Try.func23, Try.ntmps23
  go_wp2_with fail
  refine (cost_calls a ts cap w hl HT.out).mono ?_
  rintro e w1 ⟨hb, rfl⟩
  cases he : Tok.expand [] ts with
  | none =>
    rw [Tok.okB_none he, Tok.costAns_none he]
    have HE : Hid _ := he
    clear he
    go_wp2
    go_ret2
    exact ⟨hb, .inl ⟨HE.out, rfl⟩⟩
  | some out =>
    rw [Tok.okB_some he, Tok.costAns_some he]
    have HE : Hid _ := he
    clear he
    go_wp2
    go_ret2
    exact ⟨hb, .inr ⟨out, HE.out, rfl⟩⟩

set_option maxHeartbeats 1000000 in
theorem expanded_calls (a : Option Addr) (ts : List Tok) (cap : Nat) (w : World) (hl : ts.length ≤ 9223372036854775807) (ht : ToksAt w a ts) :
    Calls Try.prog 10 #[.slice a ts.length cap] w fun e w' => Below w.heap.size w w' ∧ ∃ v, e = .returned (.tuple #[v, .bool true]) := by
  have HT : Hid (ToksAt w a ts) := ht
  clear ht
  go_enter Try.func10, Try.ntmps10
  go_wp2_with fail
  refine (pressExpand_calls a ts cap w hl HT.out).mono ?_
  rintro e w1 ⟨hb1, h1⟩
  have T1 : Hid (ToksAt w1 a ts) := HT.out.below hb1
  cases he : Tok.expand [] ts with
  | none =>
    rcases h1 with ⟨_, rfl⟩ | ⟨out, v, he', _⟩
    · have HE : Hid _ := he
      clear he
      go_wp2_with fail
      refine (pressCost_calls a ts cap w1 hl T1.out).mono ?_
      rintro e w2 ⟨hb2, h2⟩
      rcases h2 with ⟨_, rfl⟩ | ⟨out, he', _⟩
      · have T2 : Hid (ToksAt w2 a ts) := T1.out.below hb2
        go_wp2_with fail
        refine (make_calls a ts cap w2 hl T2.out).mono ?_
        rintro e w3 ⟨hb3, h3⟩
        rcases h3 with ⟨_, rfl⟩ | ⟨out, v, he', _⟩
        · have hb : Below w.heap.size w w3 := (hb1.trans (hb2.mono hb1.size)).trans (hb3.mono (Nat.le_trans hb1.size hb2.size))
          clear hb1 hb2 hb3
          go_wp2
          go_ret2
          exact ⟨hb, _, rfl⟩
        · rw [HE.out] at he'; cases he'
      · rw [HE.out] at he'; cases he'
    · rw [he] at he'; cases he'
  | some out =>
    rcases h1 with ⟨he', _⟩ | ⟨out', v, he', ho, rfl, hown⟩
    · rw [he] at he'; cases he'
    · rw [he] at he'; cases he'
      have HE : Hid _ := he
      have O1 : Hid _ := hown
      clear he hown
      go_wp2_with fail
      refine (pressCost_calls a ts cap w1 hl T1.out).mono ?_
      rintro e w2 ⟨hb2, h2⟩
      rcases h2 with ⟨he', _⟩ | ⟨out', he', rfl⟩
      · rw [HE.out] at he'; cases he'
      · have T2 : Hid (ToksAt w2 a ts) := T1.out.below hb2
        go_wp2_with fail
        refine (make_calls a ts cap w2 hl T2.out).mono ?_
        rintro e w3 ⟨hb3, h3⟩
        rcases h3 with ⟨he', _⟩ | ⟨out', v', he', _, rfl, hown⟩
        · rw [HE.out] at he'; cases he'
        · rw [HE.out] at he'; cases he'
          have hb : Below w.heap.size w w3 := (hb1.trans (hb2.mono hb1.size)).trans (hb3.mono (Nat.le_trans hb1.size hb2.size))
          have T3 : Hid (ToksAt w3 a ts) := T2.out.below hb3
          have k1 := conv_own (OwnB.below (OwnB.below O1.out hb2) hb3)
          have k2 := conv_own hown
          have hlen : ts.length ≤ 64 := by have := Tok.expand_many ts [] out HE.out; simp at this; omega
          have hall := Tok.expand_all ts [] out HE.out
          have HA : Hid _ := hall
          have hcl : Tok.costs ts ≤ 31 * ts.length := Tok.costs_le ts hall
          clear hall hown hb1 hb2 hb3
          go_wp2_with (first | (go_at_call 25; go_in) | fail)
          refine (refCost_calls a ts cap w3 hlen T3.out HA.out).mono ?_
          rintro e w4 ⟨rfl, hb4⟩
          have hbb : Below w.heap.size w w4 := hb.trans (hb4.mono hb.size)
          clear hb hb4 k1 k2
          go_wp2
          go_ret2
          exact ⟨hbb, _, rfl⟩

theorem expandsLaw_calls (a : Option Addr) (ts : List Tok) (cap : Nat) (w : World) (hl : ts.length ≤ 9223372036854775807) (ht : ToksAt w a ts) :
    Calls Try.prog 4 #[.slice a ts.length cap] w fun e w' => e = .returned (.bool true) ∧ Below w.heap.size w w' := by
  have HT : Hid (ToksAt w a ts) := ht
  clear ht
  go_enter Try.func4, Try.ntmps4
  go_wp2_with fail
  refine (expanded_calls a ts cap w hl HT.out).mono ?_
  rintro e w1 ⟨hb1, v, rfl⟩
  go_wp2
  go_ret
  exact ⟨rfl, hb1⟩

theorem own : ownKnob Try.prog.godebug = none := by kernel_rfl
theorem laidOut : laidOutB Try.prog = true := by kernel_rfl

set_option maxRecDepth 100000 in
theorem lifted (os : Os) (started : os.Started) (H : Type) (enc : TypeId × Value → H) :
    ReturnsInHanded {} Try.checked os 4 .any (Rows.expandsSpec.pre6 enc Try.prog Try.f4 Rows.expandsRow.domain false) (Rows.expandsSpec.post enc Try.prog Try.f4 false true false false) := by
  refine returnsInHanded_of_change (C := Try.checked) own started (by kernel_rfl) Try.func4
    (ChangeSpec.witness6 (enc := enc) (C := Try.checked) false ⟨#[], #[.slice none 0 0], []⟩ 8 (by kernel_rfl) (by kernel_rfl) (by kernel_rfl) (by kernel_rfl)) ?_
  intro W base args ds gs before hval0 hW hcnd _
  have hval : ∀ (j : Nat) t v, Try.f4.params[j]? = some t → args[j]? = some v → Value.okWide Try.prog W .any base t v := hval0
  have hW' := hW
  obtain ⟨p, q, hA0, hV, rfl, hfz, hnd⟩ := hW
  have hA : DataW.TrodAll enc Try.prog W 0 (fun _ => true) true Try.f4.params.toList args.toList ds p := hA0
  rw [Try.params4] at hA hval
  obtain ⟨v0, vs0, d0, ds0, p0, q0, hargs, rfl, rfl, h0, r0⟩ := trodAll_cons hA
  obtain ⟨rfl, rfl, rfl⟩ := trodAll_nil r0
  obtain rfl : args = #[v0] := by cases args; simp_all
  obtain ⟨rfl, rfl⟩ := trodVars_none hV
  obtain ⟨a0, len0, cap0, rfl⟩ := okWide_slice Try.underlying25 (hval 0 25 v0 rfl rfl)
  have k0 := h0
  have lt0 : ∀ x ∈ p0, x.block < W.heap.size := by obtain ⟨m, hm⟩ := k0; exact DataW.trod_lt m _ _ _ hm
  obtain ⟨ts, hts, hlen, hat⟩ : ∃ ts : List Tok, len0 = ts.length ∧ ts.length ≤ 9223372036854775807 ∧ ToksAt W a0 ts := by
    obtain ⟨fuel, hf⟩ := h0
    obtain ⟨a, cap, ts, hcs, hlen, hat⟩ := open_toks hf
    simp [Value.cells] at hcs
    obtain ⟨rfl, rfl, rfl⟩ := hcs
    exact ⟨ts, rfl, hlen, hat⟩
  subst hts
  clear hA0 hval0
  refine (expandsLaw_calls a0 ts cap0 W hlen hat).mono fun e W' ⟨he, bel⟩ => ?_
  subst he
  exact ⟨_, rfl, _, _, _, [], _, [], hW', trodAll_mk1 (shut_bool Try.underlying4 _), (trodAll_cons_mk (Below.trod laidOut (by kernel_rfl) (of_decide_eq_true (by kernel_rfl)) k0 bel lt0) trodAll_mk0), rfl, bel.frame _, fun h => by cases h⟩

theorem expands_holds : Rows.ExpandsSaid :=
  OpenClaim.holds_of_wide 4 Try.f4 rfl rfl rfl rfl rfl rfl rfl ⟨rfl, rfl, rfl, rfl, rfl⟩ rfl rfl rfl rfl rfl (by kernel_rfl) Try.func4 (by kernel_rfl)
    (of_decide_eq_true (by kernel_rfl)) (by unfold Func.isWrapper; first | (rw [if_pos (by decide +kernel)]; kernel_rfl) | (rw [if_neg (by decide +kernel)]; exact ⟨rfl, rfl⟩))
    (fun os started H enc _ => lifted os started H enc)
#print axioms expands_holds
end Go.Proofs.Ytnncabpfalcaaaa
