/-
  The law Expands returns true of every list of tokens: Expand and Cost answer as the document says, of any tokens.
-/
import Derived.Test.YtnpnaglgllcpfaaPEx
import Derived.Test.YtnpnaglgllcpfaaMake
import Derived.Test.YtnpnaglgllcpfaaCst
import Derived.Test.YtnpnaglgllcpfaaOpenToks
import Derived.Test.YtnpnaglgllcpfaaConv
import Derived.Laws.IdiomStrings
import Derived.Laws.BytesArg
namespace Go.Proofs.Ytnpnaglgllcpfaa
set_option maxRecDepth 100000
open Go.ChangeShapes Go.WideShapes Go.ChangeAt Go.RowKit



set_option maxHeartbeats 1000000 in
theorem expanded_calls (a : Option Addr) (ts : List Tok) (cap : Nat) (w : World) (hl : ts.length ≤ 9223372036854775807) (ht : ToksAt w a ts) :
    Calls Try.prog 16 #[.slice a ts.length cap] w fun e w' => Below w.heap.size w w' ∧ ∃ v, e = .returned (.tuple #[v, .bool true]) := by
  have HT : Hid (ToksAt w a ts) := ht
  clear ht
  go_enter Try.func16, Try.ntmps16
  go_wp2_with fail
  refine (pressExpand_calls a ts cap w hl HT.out).mono ?_
  rintro e w1 ⟨hb1, h1⟩
  have T1 : Hid (ToksAt w1 a ts) := HT.out.below hb1
  cases he : Tok.expand [] ts with
  | none =>
    rcases h1 with ⟨_, rfl⟩ | ⟨out, v, he', _⟩
    · have HE : Hid _ := he
      clear he
      go_wp2_with fail
      refine (pressCost_calls a ts cap w1 hl T1.out).mono ?_
      rintro e w2 ⟨hb2, h2⟩
      rcases h2 with ⟨_, rfl⟩ | ⟨out, he', _⟩
      · have T2 : Hid (ToksAt w2 a ts) := T1.out.below hb2
        go_wp2_with fail
        refine (make_calls a ts cap w2 hl T2.out).mono ?_
        rintro e w3 ⟨hb3, h3⟩
        rcases h3 with ⟨_, rfl⟩ | ⟨out, v, he', _⟩
        · have hb : Below w.heap.size w w3 := (hb1.trans (hb2.mono hb1.size)).trans (hb3.mono (Nat.le_trans hb1.size hb2.size))
          clear hb1 hb2 hb3
          go_wp2
          go_ret2
          exact ⟨hb, _, rfl⟩
        · rw [HE.out] at he'; cases he'
      · rw [HE.out] at he'; cases he'
    · rw [he] at he'; cases he'
  | some out =>
    rcases h1 with ⟨he', _⟩ | ⟨out', v, he', ho, rfl, hown⟩
    · rw [he] at he'; cases he'
    · rw [he] at he'; cases he'
      have HE : Hid _ := he
      have O1 : Hid _ := hown
      clear he hown
      go_wp2_with fail
      refine (pressCost_calls a ts cap w1 hl T1.out).mono ?_
      rintro e w2 ⟨hb2, h2⟩
      rcases h2 with ⟨he', _⟩ | ⟨out', he', rfl⟩
      · rw [HE.out] at he'; cases he'
      · have T2 : Hid (ToksAt w2 a ts) := T1.out.below hb2
        go_wp2_with fail
        refine (make_calls a ts cap w2 hl T2.out).mono ?_
        rintro e w3 ⟨hb3, h3⟩
        rcases h3 with ⟨he', _⟩ | ⟨out', v', he', _, rfl, hown⟩
        · rw [HE.out] at he'; cases he'
        · rw [HE.out] at he'; cases he'
          have hb : Below w.heap.size w w3 := (hb1.trans (hb2.mono hb1.size)).trans (hb3.mono (Nat.le_trans hb1.size hb2.size))
          have T3 : Hid (ToksAt w3 a ts) := T2.out.below hb3
          have k1 := conv_own (OwnB.below (OwnB.below O1.out hb2) hb3)
          have k2 := conv_own hown
          have hlen : ts.length ≤ 64 := by have := Tok.expand_many ts [] out HE.out; simp at this; omega
          have hall := Tok.expand_all ts [] out HE.out
          have HA : Hid _ := hall
          have hcl : Tok.costs ts ≤ 31 * ts.length := Tok.costs_le ts hall
          clear hall hown hb1 hb2 hb3
          go_wp2_with (first | (go_at_call 43; go_in) | fail)
          refine (refCost_calls a ts cap w3 hlen T3.out HA.out).mono ?_
          rintro e w4 ⟨rfl, hb4⟩
          have hbb : Below w.heap.size w w4 := hb.trans (hb4.mono hb.size)
          clear hb hb4 k1 k2
          go_wp2
          go_ret2
          exact ⟨hbb, _, rfl⟩

theorem expandsLaw_calls (a : Option Addr) (ts : List Tok) (cap : Nat) (w : World) (hl : ts.length ≤ 9223372036854775807) (ht : ToksAt w a ts) :
    Calls Try.prog 4 #[.slice a ts.length cap] w fun e w' => e = .returned (.bool true) ∧ Below w.heap.size w w' := by
  have HT : Hid (ToksAt w a ts) := ht
  clear ht
  go_enter Try.func4, Try.ntmps4
  go_wp2_with fail
  refine (expanded_calls a ts cap w hl HT.out).mono ?_
  rintro e w1 ⟨hb1, v, rfl⟩
  go_wp2
  go_ret
  exact ⟨rfl, hb1⟩

theorem own : ownKnob Try.prog.godebug = none := by kernel_rfl
theorem laidOut : laidOutB Try.prog = true := by kernel_rfl

set_option maxRecDepth 100000 in
theorem lifted (os : Os) (started : os.Started) (H : Type) (enc : TypeId × Value → H) :
    ReturnsInHanded {} Try.checked os 4 .any (Rows.expandsSpec.pre6 enc Try.prog Try.f4 Rows.expandsRow.domain false) (Rows.expandsSpec.post enc Try.prog Try.f4 false true false false) := by
  refine returnsInHanded_of_change (C := Try.checked) own started (by kernel_rfl) Try.func4
    (ChangeSpec.witness6 (enc := enc) (C := Try.checked) false ⟨#[], #[.slice none 0 0], []⟩ 8 (by kernel_rfl) (by kernel_rfl) (by kernel_rfl) (by kernel_rfl)) ?_
  intro W base args ds gs before hval0 hW hcnd _
  have hval : ∀ (j : Nat) t v, Try.f4.params[j]? = some t → args[j]? = some v → Value.okWide Try.prog W .any base t v := hval0
  have hW' := hW
  obtain ⟨p, q, hA0, hV, rfl, hfz, hnd⟩ := hW
  have hA : DataW.TrodAll enc Try.prog W 0 (fun _ => true) true Try.f4.params.toList args.toList ds p := hA0
  rw [Try.params4] at hA hval
  obtain ⟨v0, vs0, d0, ds0, p0, q0, hargs, rfl, rfl, h0, r0⟩ := trodAll_cons hA
  obtain ⟨rfl, rfl, rfl⟩ := trodAll_nil r0
  obtain rfl : args = #[v0] := by cases args; simp_all
  obtain ⟨rfl, rfl⟩ := trodVars_none hV
  obtain ⟨a0, len0, cap0, rfl⟩ := okWide_slice Try.underlying25 (hval 0 25 v0 rfl rfl)
  have k0 := h0
  have lt0 : ∀ x ∈ p0, x.block < W.heap.size := by obtain ⟨m, hm⟩ := k0; exact DataW.trod_lt m _ _ _ hm
  obtain ⟨ts, hts, hlen, hat⟩ : ∃ ts : List Tok, len0 = ts.length ∧ ts.length ≤ 9223372036854775807 ∧ ToksAt W a0 ts := by
    obtain ⟨fuel, hf⟩ := h0
    obtain ⟨a, cap, ts, hcs, hlen, hat⟩ := open_toks hf
    simp [Value.cells] at hcs
    obtain ⟨rfl, rfl, rfl⟩ := hcs
    exact ⟨ts, rfl, hlen, hat⟩
  subst hts
  clear hA0 hval0
  refine (expandsLaw_calls a0 ts cap0 W hlen hat).mono fun e W' ⟨he, bel⟩ => ?_
  subst he
  exact ⟨_, rfl, _, _, _, [], _, [], hW', trodAll_mk1 (shut_bool Try.underlying4 _), (trodAll_cons_mk (Below.trod laidOut (by kernel_rfl) (of_decide_eq_true (by kernel_rfl)) k0 bel lt0) trodAll_mk0), rfl, bel.frame _, fun h => by cases h⟩

theorem expands_holds : Rows.ExpandsSaid :=
  OpenClaim.holds_of_wide 4 Try.f4 rfl rfl rfl rfl rfl rfl rfl ⟨rfl, rfl, rfl, rfl, rfl⟩ rfl rfl rfl rfl rfl (by kernel_rfl) Try.func4 (by kernel_rfl)
    (of_decide_eq_true (by kernel_rfl)) (by unfold Func.isWrapper; first | (rw [if_pos (by decide +kernel)]; kernel_rfl) | (rw [if_neg (by decide +kernel)]; exact ⟨rfl, rfl⟩))
    (fun os started H enc _ => lifted os started H enc)
#print axioms expands_holds
end Go.Proofs.Ytnpnaglgllcpfaa
