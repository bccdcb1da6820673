/-
  The law Packs returns true of every list of pieces: Pack answers as the document says, of any tokens: the stream, byte by byte, or the error.
-/
import Derived.Test.YtnpnaglgllcpfaaRefPk3
import Derived.Test.YtnpnaglgllcpfaaConv
import Derived.Test.YtnpnaglgllcpfaaOpenToks
namespace Go.Proofs.Ytnpnaglgllcpfaa
set_option maxRecDepth 100000
open Go.ChangeShapes Go.WideShapes Go.ChangeAt Go.RowKit Go.Deep

theorem num_calls (x : Int) (w : World) : Calls Try.prog 43 #[.int .i64 x] w fun e w' => e = .returned (.int .i64 x) ∧ w' = w := by
  go_enter Try.func43, Try.ntmps43
  go_wp2
  go_ret
  exact ⟨rfl, rfl⟩

set_option maxHeartbeats 1000000 in
theorem packed_calls (a : Option Addr) (ps : List (List Tok)) (cap : Nat) (w : World) (hl : ps.length ≤ 9223372036854775807) (ht : PiecesAt w a ps) :
    Calls Try.prog 17 #[.slice a ps.length cap] w fun e w' => Below w.heap.size w w' ∧ ∃ v, e = .returned (.tuple #[v, .bool true]) := by
  have HT : Hid (PiecesAt w a ps) := ht
  clear ht
  go_enter Try.func17, Try.ntmps17
  go_wp2_with fail
  refine (pack_calls a ps cap w hl HT.out).mono ?_
  rintro e w1 ⟨hb1, h1⟩
  have T1 : Hid (PiecesAt w1 a ps) := HT.out.below hb1
  obtain ⟨v1, c1, out1, B1, rfl, o1, P1⟩ : ∃ v c out B, e = .returned (.tuple #[v, .int .i64 c]) ∧ OwnB w1 B v out ∧ PackAns ps e (fun v' out' => v' = v ∧ out' = out ∧ c = 0) ∧ (c ≠ 0 → out = []) := by
    rcases h1 with ⟨h, rfl⟩ | ⟨h, hx, rfl⟩ | ⟨h, hx, v, rfl, ho⟩
    · exact ⟨_, 1, [], 0, rfl, World.ownsRow_nil _ _ _ _, .inl ⟨h, rfl⟩, fun _ => rfl⟩
    · exact ⟨_, 2, [], 0, rfl, World.ownsRow_nil _ _ _ _, .inr (.inl ⟨h, hx, rfl⟩), fun _ => rfl⟩
    · exact ⟨v, 0, _, _, rfl, ho, .inr (.inr ⟨h, hx, v, rfl, rfl, rfl, rfl⟩), fun h => absurd rfl h⟩
  have O1 : Hid (OwnB w1 B1 v1 out1) := o1
  have HP1 : Hid _ := P1
  clear o1 P1 h1
  go_wp2_with fail
  refine (refPack_calls a ps cap w1 hl T1.out).mono ?_
  rintro e w2 ⟨hb2, h2⟩
  obtain ⟨v2, c2, out2, B2, rfl, o2, P2⟩ : ∃ v c out B, e = .returned (.tuple #[v, .int .i64 c]) ∧ OwnB w2 B v out ∧ PackAns ps e (fun v' out' => v' = v ∧ out' = out ∧ c = 0) ∧ (c ≠ 0 → out = []) := by
    rcases h2 with ⟨h, rfl⟩ | ⟨h, hx, rfl⟩ | ⟨h, hx, v, rfl, ho⟩
    · exact ⟨_, 1, [], 0, rfl, World.ownsRow_nil _ _ _ _, .inl ⟨h, rfl⟩, fun _ => rfl⟩
    · exact ⟨_, 2, [], 0, rfl, World.ownsRow_nil _ _ _ _, .inr (.inl ⟨h, hx, rfl⟩), fun _ => rfl⟩
    · exact ⟨v, 0, _, _, rfl, ho, .inr (.inr ⟨h, hx, v, rfl, rfl, rfl, rfl⟩), fun h => absurd rfl h⟩
  have hsame : c2 = c1 ∧ out2 = out1 := by
    obtain ⟨p1, z1⟩ := HP1.out
    obtain ⟨p2, z2⟩ := P2
    rcases p1 with ⟨h, e1⟩ | ⟨h, hx, e1⟩ | ⟨h, hx, v, e1, k1, k2, k3⟩ <;> rcases p2 with ⟨h', e2⟩ | ⟨h', hx', e2⟩ | ⟨h', hx', v', e2, k1', k2', k3'⟩
    all_goals first | omega | skip
    · simp at e1 e2
      rw [z1 (by omega), z2 (by omega)]; exact ⟨by omega, rfl⟩
    · simp at e1 e2
      rw [z1 (by omega), z2 (by omega)]; exact ⟨by omega, rfl⟩
    · obtain ⟨k, hk, hf⟩ := hx
      rw [hx' k hk] at hf; cases hf
    · obtain ⟨k, hk, hf⟩ := hx'
      rw [hx k hk] at hf; cases hf
    · exact ⟨by omega, by rw [← k2, ← k2']⟩
  obtain ⟨rfl, rfl⟩ := hsame
  have hb : Below w.heap.size w w2 := hb1.trans (hb2.mono hb1.size)
  have k1 := conv_drew (OwnB.below O1.out hb2)
  have k2 := conv_drew o2
  clear o2 P2 h2 hb1 hb2 HP1
  go_wp2_with fail
  go_quiet ((go_at_call 43; exact Calls.quiet_of_same (num_calls _ _)))
  go_wp2
  go_ret2
  exact ⟨below_drewN hb _, _, rfl⟩

theorem packsLaw_calls (a : Option Addr) (ps : List (List Tok)) (cap : Nat) (w : World) (hl : ps.length ≤ 9223372036854775807) (ht : PiecesAt w a ps) :
    Calls Try.prog 5 #[.slice a ps.length cap] w fun e w' => e = .returned (.bool true) ∧ Below w.heap.size w w' := by
  have HT : Hid (PiecesAt w a ps) := ht
  clear ht
  go_enter Try.func5, Try.ntmps5
  go_wp2_with fail
  refine (packed_calls a ps cap w hl HT.out).mono ?_
  rintro e w1 ⟨hb1, v, rfl⟩
  go_wp2
  go_ret
  exact ⟨rfl, hb1⟩

theorem cellsToks : Try.prog.cellsOf 25 = 1 := by kernel_rfl

theorem open_pieces {H : Type} {enc : TypeId × Value → H} {w : World} {base : Nat} {spare : Nat → Bool} {held : Bool} {fuel : Nat} {cs : List Value} {x : DataW H × List MemPlace} (h : DataW.trod enc Try.prog w base spare held fuel 29 cs = some x) :
    ∃ (a : Option Addr) (cap : Nat) (ps : List (List Tok)), cs = [.slice a ps.length cap] ∧ ps.length ≤ 9223372036854775807 ∧ PiecesAt w a ps := by
  rcases open_slice1 Try.underlying29 cellsToks h with ⟨rfl, _⟩ | ⟨a, len, cap, m, n, V, D, Pl, rfl, hb, hl, hm, hmm, _, hx⟩
  · exact ⟨none, 0, [], rfl, by simp, .inl rfl⟩
  · have hlm : len ≤ m := by rw [hmm]; split <;> omega
    have each : ∀ i, i < len → ∃ ts : List Tok, ∃ ai ci, w.cell? (a.add i) = some (.slice ai ts.length ci) ∧ ts.length ≤ 9223372036854775807 ∧ ToksAt w ai ts := by
      intro i hi
      obtain ⟨h1, h2⟩ := hx i (by omega)
      obtain ⟨ai, ci, ts, hv, hlen, hat⟩ := open_toks h2
      simp at hv
      exact ⟨ts, ai, ci, by rw [h1, hv], hlen, hat⟩
    obtain ⟨T, hT⟩ := choose_lt each
    have hlen : ((List.range len).map T).length = len := by simp
    refine ⟨some a, cap, (List.range len).map T, by rw [hlen], by rw [hlen]; unfold maxLen at hm; omega, ?_⟩
    rcases Nat.eq_zero_or_pos len with h0 | h0
    · subst h0; exact .inl rfl
    · obtain ⟨b, off, spot⟩ := a
      obtain ⟨ai, ci, hc0, _⟩ := hT 0 h0
      have hs : spot = none := by simpa [Addr.add] using World.cell?_spot hc0
      subst hs
      refine .inr ⟨b, off, rfl, ?_, fun i hi => ?_⟩
      · have := World.block_lt_of_cell? w _ hc0
        simpa [Addr.add] using this
      · have hi' : i < len := by simpa using hi
        have hadd : (⟨b, off, none⟩ : Addr).add i = ⟨b, off + i, none⟩ := by unfold Addr.add; split <;> simp_all
        obtain ⟨ai', ci', g1, g2, g3⟩ := hT i hi'
        rw [hadd] at g1
        have e : ((List.range len).map T).getD i [] = T i := by simp [List.getD, hi']
        rw [e]
        exact ⟨ai', ci', g1, g2, g3⟩

theorem own : ownKnob Try.prog.godebug = none := by kernel_rfl
theorem laidOut : laidOutB Try.prog = true := by kernel_rfl

set_option maxRecDepth 100000 in
theorem lifted (os : Os) (started : os.Started) (H : Type) (enc : TypeId × Value → H) :
    ReturnsInHanded {} Try.checked os 5 .any (Rows.packsSpec.pre6 enc Try.prog Try.f5 Rows.packsRow.domain false) (Rows.packsSpec.post enc Try.prog Try.f5 false true false false) := by
  refine returnsInHanded_of_change (C := Try.checked) own started (by kernel_rfl) Try.func5
    (ChangeSpec.witness6 (enc := enc) (C := Try.checked) false ⟨#[], #[.slice none 0 0], []⟩ 8 (by kernel_rfl) (by kernel_rfl) (by kernel_rfl) (by kernel_rfl)) ?_
  intro W base args ds gs before hval0 hW hcnd _
  have hval : ∀ (j : Nat) t v, Try.f5.params[j]? = some t → args[j]? = some v → Value.okWide Try.prog W .any base t v := hval0
  have hW' := hW
  obtain ⟨p, q, hA0, hV, rfl, hfz, hnd⟩ := hW
  have hA : DataW.TrodAll enc Try.prog W 0 (fun _ => true) true Try.f5.params.toList args.toList ds p := hA0
  rw [Try.params5] at hA hval
  obtain ⟨v0, vs0, d0, ds0, p0, q0, hargs, rfl, rfl, h0, r0⟩ := trodAll_cons hA
  obtain ⟨rfl, rfl, rfl⟩ := trodAll_nil r0
  obtain rfl : args = #[v0] := by cases args; simp_all
  obtain ⟨rfl, rfl⟩ := trodVars_none hV
  obtain ⟨a0, len0, cap0, rfl⟩ := okWide_slice Try.underlying29 (hval 0 29 v0 rfl rfl)
  have k0 := h0
  have lt0 : ∀ x ∈ p0, x.block < W.heap.size := by obtain ⟨m, hm⟩ := k0; exact DataW.trod_lt m _ _ _ hm
  obtain ⟨ps, hps, hlen, hat⟩ : ∃ ps : List (List Tok), len0 = ps.length ∧ ps.length ≤ 9223372036854775807 ∧ PiecesAt W a0 ps := by
    obtain ⟨fuel, hf⟩ := h0
    obtain ⟨a, cap, ps, hcs, hlen, hat⟩ := open_pieces hf
    simp [Value.cells] at hcs
    obtain ⟨rfl, rfl, rfl⟩ := hcs
    exact ⟨ps, rfl, hlen, hat⟩
  subst hps
  clear hA0 hval0
  refine (packsLaw_calls a0 ps cap0 W hlen hat).mono fun e W' ⟨he, bel⟩ => ?_
  subst he
  exact ⟨_, rfl, _, _, _, [], _, [], hW', trodAll_mk1 (shut_bool Try.underlying4 _), (trodAll_cons_mk (Below.trod laidOut (by kernel_rfl) (of_decide_eq_true (by kernel_rfl)) k0 bel lt0) trodAll_mk0), rfl, bel.frame _, fun h => by cases h⟩

theorem packs_holds : Rows.PacksSaid :=
  OpenClaim.holds_of_wide 5 Try.f5 rfl rfl rfl rfl rfl rfl rfl ⟨rfl, rfl, rfl, rfl, rfl⟩ rfl rfl rfl rfl rfl (by kernel_rfl) Try.func5 (by kernel_rfl)
    (of_decide_eq_true (by kernel_rfl)) (by unfold Func.isWrapper; first | (rw [if_pos (by decide +kernel)]; kernel_rfl) | (rw [if_neg (by decide +kernel)]; exact ⟨rfl, rfl⟩))
    (fun os started H enc _ => lifted os started H enc)
#print axioms packs_holds
end Go.Proofs.Ytnpnaglgllcpfaa
