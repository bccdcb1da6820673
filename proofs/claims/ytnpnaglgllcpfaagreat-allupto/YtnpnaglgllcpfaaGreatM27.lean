/-
  Lemmas for the law All: Gu, Gl, Gk.
-/
import Derived.Test.YtnpnaglgllcpfaaGreatM09
import Derived.Test.YtnpnaglgllcpfaaGreatM14
import Derived.Test.YtnpnaglgllcpfaaGreatM26
/- What Unpack answers, its rows apart; what the law's opened and unpacked answer, with what they own. -/
namespace Go.Proofs.YtnpnaglgllcpfaaGreat
set_option maxRecDepth 100000
open Go.RowKit

/-- The slice v is the call's own (from block B on) and holds these lists of tokens, each a row of its own. -/
def PRow (w : World) (B : Nat) (v : Value) (ps : List (List Tok)) : Prop := ∃ vs : List Value, w.ownsRow B 32 1 v ps.length vs ∧
  ∀ i, i < ps.length → ∃ a c, vs[i]? = some (.slice a (ps.getD i []).length c) ∧ TokRow w B (.slice a (ps.getD i []).length c) (ps.getD i []) ∧ ∀ j u, j < i → vs[j]? = some u → ∀ k, u.ownBlock = some k → (Value.slice a (ps.getD i []).length c).ownBlock ≠ some k
theorem PRow.nil (w : World) (B : Nat) : PRow w B (.slice none 0 0) [] := ⟨[], World.ownsRow_nil _ _ _ _, fun i hi => by simp at hi⟩
theorem PRow.below {w w' : World} {B : Nat} {v : Value} {ps : List (List Tok)} (h : PRow w B v ps) (hb : Below w.heap.size w w') : PRow w' B v ps := by
  obtain ⟨vs, h1, h2⟩ := h
  refine ⟨vs, row_below h1 hb, fun i hi => ?_⟩
  obtain ⟨a, c, g1, g2, g3⟩ := h2 i hi
  exact ⟨a, c, g1, row_below g2 hb, g3⟩
theorem PRow.at {w : World} {B : Nat} {v : Value} {ps : List (List Tok)} (h : PRow w B v ps) : ∃ pa c, v = .slice pa ps.length c ∧ ps.length ≤ 9223372036854775807 ∧ PiecesAt w pa ps := by
  obtain ⟨vs, h1, h2⟩ := h
  exact Lists.at (vD := .slice none 0 0) (vE := .slice none 0 0) (data := []) (ends := []) ⟨⟨vs, h1, fun i hi => by obtain ⟨a, c, g1, g2, _⟩ := h2 i hi; exact ⟨a, c, g1, g2⟩⟩, World.ownsRow_nil _ _ _ _, World.ownsRow_nil _ _ _ _⟩
theorem frames_at {w : World} {B : Nat} {v : Value} {fs : List (List Tok × List UInt8)} {vs : List Value} (ho : w.ownsRow B 137 2 v fs.length vs) (hin : InnerAt w B vs fs) (k : Nat) (hk : k < fs.length) :
    ∃ g cap a c gb d, v = .slice (some ⟨g, 0, none⟩) fs.length cap ∧ g < w.heap.size ∧ w.cell? ⟨g, k * 2, none⟩ = some (.slice a (fs.getD k ([], [])).1.length c) ∧ w.cell? ⟨g, k * 2 + 1, none⟩ = some (.slice (some ⟨gb, 0, none⟩) (fs.getD k ([], [])).2.length d) ∧ vs[k * 2]? = some (.slice a (fs.getD k ([], [])).1.length c) := by
  obtain ⟨a, c, b, d, h1, h2, h3, h4, h5, _⟩ := hin k hk
  rcases ho.2 with ⟨_, hn⟩ | ⟨g, cap, cur, rfl, hb, hg, _⟩
  · omega
  · obtain ⟨gb, cb, hv, _, hlt, _⟩ := h4.at h5
    simp at hv
    obtain ⟨rfl, rfl⟩ := hv
    have hadd : ∀ j, (⟨g, 0, none⟩ : Addr).add j = ⟨g, j, none⟩ := fun j => by unfold Addr.add; split <;> simp_all
    have k1 := World.ownsRow.cells ho (g := g) rfl _ _ h1
    have k2 := World.ownsRow.cells ho (g := g) rfl _ _ h2
    rw [hadd] at k1 k2
    exact ⟨g, cap, a, c, gb, _, rfl, (Array.getElem?_eq_some_iff.1 hg).1, k1, k2, h1⟩

set_option maxHeartbeats 1000000 in
theorem unp2_calls (a : Option Addr) (l : List UInt8) (cap : Nat) (w : World) (hl : l.length ≤ 9223372036854775807) (hb : BytesAt w a l) :
    Calls Tryz.prog 49 #[.slice a l.length cap] w fun e w' => Below w.heap.size w w' ∧ ∃ v ps, e = .returned (.tuple #[v, .int .i64 (rRead l).1]) ∧ PRow w' w.heap.size v ps ∧ ps.length ≤ 4096 ∧ ((rRead l).1 = 0 → ps = (rRead l).2.1) ∧ ((rRead l).1 ≠ 0 → ps = []) := by
  have HB : Hid (BytesAt w a l) := hb
  obtain ⟨i0, hi, hz0, hz1, hz2⟩ := info_parts infoToks
  clear hb
  go_enter Tryz.func49, Tryz.ntmps49
  go_wp2_with fail
  refine (sread_calls a l cap w hl HB.out).mono ?_
  rintro e w1 ⟨hb1, ⟨c, hc, rfl, hres⟩ | ⟨fs, v, rfl, hfr, hfl, hdl, hr1, hr2, hr3⟩⟩
  · have HB1 : Hid (Below w.heap.size w w1) := hb1
    have HE : Hid ((rRead l).1 = c) := hres
    have HC : Hid (c ≠ 0) := hc
    have hcb : (c != 0) = true := by simpa using hc
    clear hb1 hres hc
    go_wp2
    go_ret2
    exact ⟨HB1.out, _, [], by rw [HE.out]; rfl, PRow.nil _ _, by simp, fun h => absurd (HE.out.symm.trans h) HC.out, fun _ => rfl⟩
  · have HB1 : Hid (Below w.heap.size w w1) := hb1
    obtain ⟨vF, hoF, hinF⟩ := hfr
    have HOF : Hid (w1.ownsRow w.heap.size 137 2 v fs.length vF) := hoF
    have HIF : Hid (InnerAt w1 w.heap.size vF fs) := hinF
    have HR1 : Hid ((rRead l).1 = 0) := hr1
    have HR2 : Hid ((rRead l).2.1 = psOf fs) := hr2
    obtain ⟨fo, fc, rfl⟩ := row_form hoF
    have hs1 := hb1.size
    clear hb1 hoF hinF hr1 hr2 hr3
    go_wp2_with fail
    go_loopw [6, 19] (fun v i wr => ∃ (k : Nat) (vs : List Value), k ≤ fs.length ∧ i = .int .i64 k ∧ Hid (wr.ownsRow w1.heap.size 32 1 v k vs) ∧ Hid (∀ i, i < k → vs[i]? = vF[i * 2]?) ∧ Hid (Below w1.heap.size w1 wr)) (fun _ i _ => fs.length - (intOf i).toNat)
    case atStart => exact ⟨0, [], by omega, rfl, World.ownsRow_nil _ _ _ _, fun i hi => by omega, Below.refl _ _⟩
    case round =>
      obtain ⟨k, vs, hk, rfl, HO, HRW, HBW⟩ := hrel
      have hsw := HBW.out.size
      obtain ⟨vo, vc, rfl⟩ := row_form HO.out
      by_cases hlt : k < fs.length
      · obtain ⟨g, fc', ta, tc, gb, bc, hv, hgl, k1, k2, hT⟩ := frames_at HOF.out HIF.out k hlt
        simp at hv
        obtain ⟨rfl, rfl⟩ := hv
        have HT : Hid (vF[k * 2]? = some (.slice ta (fs.getD k ([], [])).1.length tc)) := hT
        have c1 : wr.cell? ⟨g, k * 2, none⟩ = some (.slice ta (fs.getD k ([], [])).1.length tc) := by rw [HBW.out.cell (p := ⟨g, _, none⟩) hgl]; exact k1
        have c2 : wr.cell? ⟨g, k * 2 + 1, none⟩ = some (.slice (some ⟨gb, 0, none⟩) (fs.getD k ([], [])).2.length bc) := by rw [HBW.out.cell (p := ⟨g, _, none⟩) hgl]; exact k2
        clear k1 k2 hT
        generalize (fs.getD k ([], [])).2.length = nB at *
        generalize hN : (fs.getD k ([], [])).1.length = nT at *
        have HN : Hid ((fs.getD k ([], [])).1.length = nT) := hN
        clear hN
        go_wp2_with (at_builtin; refine wpList_append_own _ rfl _ _ 27 rfl w1.heap.size 32 i0 (.slice none 0 0) 1 24 Tryz.underlying27 hi hz0 hz1 hz2 rfl (by decide) _ _ _ rfl ((World.ownsRow.alloc HO.out _).alloc _) ⟨wr.heap.size + 1, 0, none⟩ 1 1 [.slice ta nT tc] rfl rfl ?b1 ?b2 ?b3 ?b4 ?b5 ?_)
        case b1 => intro j u hj; exact cell_new1' _ _ (by simp) _ _ j u hj
        case b2 => intro u hu; simp at hu; subst hu; rfl
        case b3 => unfold maxLen; omega
        case b4 => omega
        case b5 => first | omega | (simp; omega)
        intro v' w3 hown' hgrow _
        have hbw3 : Below w1.heap.size w1 w3 := ((HBW.out.alloc (by omega) _).alloc (by simp; omega) _).grown hgrow (by simp; omega) (fun k hk => (World.ownsRow.lt HO.out k hk).1)
        have HO3 : Hid (w3.ownsRow w1.heap.size 32 1 v' (k + 1) (vs ++ [.slice ta nT tc])) := hown'
        have HB3 : Hid (Below w1.heap.size w1 w3) := hbw3
        have HRW3 : Hid (∀ i, i < k + 1 → (vs ++ [Value.slice ta nT tc])[i]? = vF[i * 2]?) := by
          have hvl : vs.length = k * 1 := HO.out.1
          intro i hi
          rcases Nat.lt_or_ge i k with h | h
          · rw [List.getElem?_append_left (by omega)]; exact HRW.out i h
          · have hi' : i = k := by omega
            subst hi'
            rw [HT.out, List.getElem?_append_right (by omega)]
            simp [hvl]
        clear hown' hgrow hbw3 c1 c2
        go_wp2
        go_roundw
        case rel => exact ⟨k + 1, _, by omega, by go_num, HO3, HRW3, HB3⟩
        case measure => simp [intOf]; omega
      · have hke : k = fs.length := by omega
        subst hke
        have HPR : Hid (PRow wr w.heap.size (.slice vo fs.length vc) (psOf fs)) := by
          have hpl : (psOf fs).length = fs.length := by simp
          refine ⟨vs, ?_, fun i hi => ?_⟩
          · rw [hpl]; exact row_le HO.out hs1
          · rw [hpl] at hi
            obtain ⟨a', c', b', d', h1, h2, h3, h4, h5, h6⟩ := HIF.out i hi
            rw [psOf_getD fs i hi]
            exact ⟨a', c', by rw [HRW.out i hi]; exact h1, row_below h3 HBW.out, fun j u hj hu => h6 j u hj (by rw [← HRW.out j (by omega)]; exact hu)⟩
        have HPL : Hid ((psOf fs).length ≤ 4096) := by show _ ≤ _; simp; omega
        go_wp2
        go_ret2
        exact ⟨HB1.out.trans (HBW.out.mono hs1), _, psOf fs, by rw [HR1.out]; rfl, HPR.out, HPL.out, fun _ => by rw [HR2.out], fun h => absurd HR1.out h⟩
set_option maxHeartbeats 1000000 in
theorem opened2_calls (a : Option Addr) (l : List UInt8) (cap : Nat) (w : World) (hl : l.length ≤ 9223372036854775807) (hb : BytesAt w a l) :
    Calls Tryz.prog 27 #[.slice a l.length cap] w fun e w' => Below w.heap.size w w' ∧ ∃ v out, e = .returned (.tuple #[v, .bool true]) ∧ OwnB w' w.heap.size v out := by
  have HB : Hid (BytesAt w a l) := hb
  clear hb
  go_enter Tryz.func27, Tryz.ntmps27
  go_wp2_with fail
  refine (dec_said a l cap w hl HB.out).mono ?_
  rintro e w1 ⟨hb1, v, out, rfl, hown, hok, hbad⟩
  have HB1 : Hid (BytesAt w1 a l) := HB.out.below hb1
  have HO1 : Hid (OwnB w1 w.heap.size v out) := hown
  have HW1 : Hid (Below w.heap.size w w1) := hb1
  obtain ⟨ao, cp, rfl⟩ := hown.form
  have HOK : Hid _ := hok
  have HBAD : Hid _ := hbad
  clear hb1 hown hok hbad
  generalize hE : (rRead l).1 = E at *
  have HE : Hid ((rRead l).1 = E) := hE
  clear hE
  go_wp2_with fail
  refine (read_calls a l cap w1 hl HB1.out).mono ?_
  rintro e w2 ⟨hb2, rfl, L, n, vP, vD, vE, ht2, hl2⟩
  rw [HE.out] at ht2
  have HO2 : Hid (OwnB w2 w.heap.size (.slice ao out.length cp) out) := OwnB.below HO1.out hb2
  have HW2 : Hid (Below w.heap.size w w2) := HW1.out.trans (hb2.mono HW1.out.size)
  have HD2 : Hid (OwnB w2 (w1.heap.size + 1) vD (rRead l).2.2.1) := hl2.data
  obtain ⟨⟨c0, c1, c2⟩, f1, f2⟩ := ht2.cell
  obtain ⟨⟨d3, d4, d5⟩, _⟩ := ht2.lists
  clear hb2 ht2 hl2 c0 c1 f1 f2 d3 d5
  by_cases hz : E = 0
  · subst hz
    have ho : out = (rRead l).2.2.1 := HOK.out rfl
    have k1 := conv_drew HO2.out
    have k2 := conv_drew HD2.out
    rw [← ho] at k2
    clear ho
    go_wp2_with fail
    go_quiet ((go_at_call 36; exact Calls.quiet_of_same (num_calls _ _)))
    go_wp2
    go_ret2
    exact ⟨below_drewN HW2.out _, _, _, rfl, OwnB.below HO2.out (below_drewN (Below.refl _ _) _)⟩
  · have ho : out = [] := HBAD.out hz
    subst ho
    have hz' : (E != 0) = true := by simpa using hz
    go_wp2_with fail
    go_quiet ((go_at_call 36; exact Calls.quiet_of_same (num_calls _ _)))
    go_wp2
    go_ret2
    exact ⟨below_drewN HW2.out _, _, _, rfl, OwnB.below HO2.out (below_drewN (Below.refl _ _) _)⟩
set_option maxHeartbeats 1000000 in
theorem unpacked2_calls (a : Option Addr) (l : List UInt8) (cap : Nat) (w : World) (hl : l.length ≤ 9223372036854775807) (hb : BytesAt w a l) :
    Calls Tryz.prog 25 #[.slice a l.length cap] w fun e w' => Below w.heap.size w w' ∧ ∃ v ps, e = .returned (.tuple #[v, .bool true]) ∧ PRow w' w.heap.size v ps ∧ ps.length ≤ 4096 := by
  have HB : Hid (BytesAt w a l) := hb
  clear hb
  go_enter Tryz.func25, Tryz.ntmps25
  go_wp2_with fail
  refine (unp2_calls a l cap w hl HB.out).mono ?_
  rintro e w1 ⟨hb1, v, ps, rfl, hpr, hpl4, hok, hbad⟩
  obtain ⟨pa, c, rfl, hpl, hps⟩ := hpr.at
  have HPR : Hid _ := hpr
  have HP4 : Hid _ := hpl4
  have HB1 : Hid (BytesAt w1 a l) := HB.out.below hb1
  have HP1 : Hid (PiecesAt w1 pa ps) := hps
  have HW1 : Hid (Below w.heap.size w w1) := hb1
  have HOK : Hid _ := hok
  have HBAD : Hid _ := hbad
  clear hb1 hps hok hbad hpr hpl4
  generalize hE : (rRead l).1 = E at *
  have HE : Hid ((rRead l).1 = E) := hE
  clear hE
  go_wp2_with fail
  refine (read_calls a l cap w1 hl HB1.out).mono ?_
  rintro e w2 ⟨hb2, rfl, L, n, vP, vD, vE, ht2, hl2⟩
  rw [HE.out] at ht2
  have HP2 : Hid (PiecesAt w2 pa ps) := HP1.out.below hb2
  have HBX : Hid (Below w1.heap.size w1 w2) := hb2
  have HW2 : Hid (Below w.heap.size w w2) := HW1.out.trans (hb2.mono HW1.out.size)
  obtain ⟨pa2, c2', hvp, hpl2, hat⟩ := hl2.at
  subst hvp
  obtain ⟨⟨c0, c1, c2⟩, f1, f2⟩ := ht2.cell
  obtain ⟨⟨d3, d4, d5⟩, _⟩ := ht2.lists
  clear hb2 ht2 hl2 c0 c1 f1 f2 d4 d5
  by_cases hz : E = 0
  · subst hz
    have ho : ps = (rRead l).2.1 := HOK.out rfl
    rw [← ho] at d3 hat
    have HAT : Hid (PiecesAt w2 pa2 ps) := hat
    clear ho hat hpl2
    go_wp2_with (first | (go_at_call 36; go_in) | fail)
    refine (samePieces_calls pa pa2 ps c c2' _ hpl HP2.out HAT.out).mono ?_
    rintro e w3 ⟨rfl, nd, rfl⟩
    go_wp2
    go_ret2
    exact ⟨below_drewN HW2.out _, _, _, rfl, PRow.below (PRow.below HPR.out HBX.out) (below_drewN (Below.refl _ _) _), HP4.out⟩
  · have ho : ps = [] := HBAD.out hz
    subst ho
    have hz' : (E != 0) = true := by simpa using hz
    go_wp2_with fail
    go_quiet ((go_at_call 36; exact Calls.quiet_of_same (num_calls _ _)))
    go_wp2
    go_ret2
    exact ⟨below_drewN HW2.out _, _, _, rfl, PRow.below (PRow.below HPR.out HBX.out) (below_drewN (Below.refl _ _) _), HP4.out⟩
end Go.Proofs.YtnpnaglgllcpfaaGreat

/- Lists of tokens that came out are written full, and kept. -/
namespace Go.Proofs.YtnpnaglgllcpfaaGreat
set_option maxRecDepth 100000
open Go.RowKit

theorem Moved.plus {w w' : World} {o o' : Nat → Prop} (h : Moved w w' o o') (R : Nat → Prop) : Moved w w' (fun x => o x ∨ R x) (fun x => o' x ∨ R x) :=
  ⟨h.os, h.tape, h.output, h.size, fun k hk hn => h.heap k hk (fun h1 => hn (.inl h1)), fun k hk => by
    rcases hk with h1 | h1
    · rcases h.new k h1 with h2 | h2
      · exact .inl (.inl h2)
      · exact .inr h2
    · exact .inl (.inr h1)⟩
/-- The blocks of the first k rows. -/
def RowsTo (vs : List Value) (k x : Nat) : Prop := ∃ i u, i < k ∧ vs[i]? = some u ∧ u.ownBlock = some x
theorem info3 : (Tryz.prog.info? 27).map (fun i => (i.zero, i.size, i.bytes)) = some (some (.slice none 0 0), 1, 24) := by kernel_rfl

set_option maxHeartbeats 2000000 in
theorem laid_calls (Q N : Nat) (S : St) (pa : Option Addr) (ps : List (List Tok)) (pc B : Nat) (w : World) (hI : Inv w Q S N) (hN : N + 10000 ≤ 1000000000000) (hps : ps.length ≤ 4096) (hl : PRow w B (.slice pa ps.length pc) ps) (hB : ∀ k, S.own k → k < B) :
    Calls Tryz.prog 26 #[.pointer (some ⟨Q, 0, none⟩), .slice pa ps.length pc] w fun e w' => e = .returned (.tuple #[]) ∧ ∃ S', Inv w' Q S' (N + ps.length + 1) ∧ Moved w w' (fun k => S.own k ∨ B ≤ k) S'.own := by
  obtain ⟨ib, hi, hz0, hz1, hz2⟩ := info_parts info3
  obtain ⟨vs, hrow, hin⟩ := hl
  have HI : Hid (Inv w Q S N) := hI
  have HROW : Hid (w.ownsRow B 32 1 (.slice pa ps.length pc) ps.length vs) := hrow
  have HIN : Hid (∀ i, i < ps.length → ∃ a c, vs[i]? = some (.slice a (ps.getD i []).length c) ∧ TokRow w B (.slice a (ps.getD i []).length c) (ps.getD i []) ∧ ∀ j u, j < i → vs[j]? = some u → ∀ k, u.ownBlock = some k → (Value.slice a (ps.getD i []).length c).ownBlock ≠ some k) := hin
  have HB : Hid (∀ k, S.own k → k < B) := hB
  have HRB : Hid (∀ k x, k ≤ ps.length → RowsTo vs k x → B ≤ x ∧ x < w.heap.size ∧ (Value.slice pa ps.length pc).ownBlock ≠ some x) := by
    rintro k x hk ⟨i, u, hi', hu, hx⟩
    obtain ⟨a, c, h1, h2, _⟩ := HIN.out i (by omega)
    have hu' := Option.some.inj (h1.symm.trans hu)
    subst hu'
    have h3 := World.ownsRow.lt h2 x hx
    refine ⟨h3.1, h3.2, fun e => ?_⟩
    rcases own_ne h2 HROW.out (by decide) with h4 | h4
    · rw [h4] at hx; cases hx
    · exact h4 (hx.trans e.symm)
  clear hI hrow hin hB
  go_enter Tryz.func26, Tryz.ntmps26
  go_wp2_with fail
  go_loopg [4] ps.length (fun g iv wr => ∃ (k : Nat) (Sk : St), k ≤ ps.length ∧ g = ps.length - k ∧ iv = .int .i64 k ∧ Hid (Inv wr Q Sk (N + k)) ∧ Hid (Moved w wr (fun x => S.own x ∨ RowsTo vs k x) Sk.own))
  case atStart => exact ⟨0, S, by omega, rfl, rfl, HI, (Moved.refl w S.own).mono (fun x h => .inl h) (fun _ h => h)⟩
  case round =>
    obtain ⟨k, Sk, hk, hg, rfl, HIk, HMk⟩ := hrel
    have HG : Hid _ := hg
    clear hg
    have hvb : ∀ x, (Value.slice pa ps.length pc).ownBlock = some x → B ≤ x ∧ x < w.heap.size ∧ ¬ (S.own x ∨ RowsTo vs k x) := fun x hx => by
      have h1 := World.ownsRow.lt HROW.out x hx
      refine ⟨h1.1, h1.2, ?_⟩
      rintro (h2 | h2)
      · have := HB.out x h2; omega
      · exact (HRB.out k x hk h2).2.2 hx
    have HRW : Hid (wr.ownsRow B 32 1 (.slice pa ps.length pc) ps.length vs) := row_same HROW.out (fun x hx => HMk.out.heap x (hvb x hx).2.1 (hvb x hx).2.2)
    by_cases hlt : k < ps.length
    · obtain ⟨ta, tc, t1, t2, t3⟩ := HIN.out k hlt
      have htb : ∀ x, (Value.slice ta (ps.getD k []).length tc).ownBlock = some x → B ≤ x ∧ x < w.heap.size ∧ ¬ (S.own x ∨ RowsTo vs k x) := fun x hx => by
        have h1 := World.ownsRow.lt t2 x hx
        refine ⟨h1.1, h1.2, ?_⟩
        rintro (h2 | ⟨i, u, h3, h4, h5⟩)
        · have := HB.out x h2; omega
        · exact t3 i u h3 h4 x h5 hx
      have HTK : Hid (TokRow wr B (.slice ta (ps.getD k []).length tc) (ps.getD k [])) := row_same t2 (fun x hx => HMk.out.heap x (htb x hx).2.1 (htb x hx).2.2)
      have HNO : Hid (∀ x, (Value.slice ta (ps.getD k []).length tc).ownBlock = some x → ¬ Sk.own x) := fun x hx h => by
        rcases HMk.out.new x h with h1 | h1
        · exact (htb x hx).2.2 h1
        · have := (htb x hx).2.1; omega
      obtain ⟨g, rfl⟩ : ∃ g, pa = some ⟨g, 0, none⟩ := by
        rcases HRW.out.2 with ⟨h, h0⟩ | ⟨g, c', cur, h, _⟩
        · omega
        · simp at h; exact ⟨g, h.1⟩
      have hvl : vs.length = ps.length * 1 := HRW.out.1
      have hc0 : wr.cell? ⟨g, k, none⟩ = some (.slice ta (ps.getD k []).length tc) := by
        rw [HRW.out.cellAt k (by omega)]; exact t1
      have hkI : 0 ≤ (k : Int) ∧ (k : Int) < (ps.length : Int) := by omega
      have HT1 : Hid (vs[k]? = some (.slice ta (ps.getD k []).length tc)) := t1
      have HTL : Hid _ := told_calls Q (N + k) Sk ta (ps.getD k []) tc B wr HIk.out (by omega) HTK.out HNO.out
      clear t1 t2 t3 hvl htb hvb HTK HNO
      generalize hnT : (ps.getD k []).length = nT at *
      clear hnT
      go_wp2_with fail
      refine Calls.mono HTL.out ?_
      rintro e w2 ⟨rfl, S2, hI2, hM2⟩
      have HI2 : Hid (Inv w2 Q S2 (N + (k + 1))) := hI2
      have HM2 : Hid (Moved w w2 (fun x => S.own x ∨ RowsTo vs (k + 1) x) S2.own) := by
        refine ((HMk.out.plus (fun x => (Value.slice ta nT tc).ownBlock = some x)).trans hM2).mono ?_ (fun _ h => h)
        rintro x ((h | ⟨i, u, h1, h2, h3⟩) | h)
        · exact .inl h
        · exact .inr ⟨i, u, by omega, h2, h3⟩
        · exact .inr ⟨k, _, by omega, HT1.out, h⟩
      clear hI2 hM2 HTL hc0
      go_wp2
      go_roundg (ps.length - (k + 1))
      case measure => have := HG.out; omega
      case rel => exact ⟨k + 1, S2, by omega, rfl, by go_num, HI2, HM2⟩
    · have hke : k = ps.length := by omega
      have hlt' : ¬ (k : Int) < (ps.length : Int) := by omega
      have HVB : Hid (∀ x, (Value.slice pa ps.length pc).ownBlock = some x → B ≤ x ∧ x < wr.heap.size ∧ ¬ Sk.own x) := fun x hx => by
        obtain ⟨h1, h2, h3⟩ := hvb x hx
        refine ⟨h1, Nat.lt_of_lt_of_le h2 HMk.out.size, fun h => ?_⟩
        rcases HMk.out.new x h with h4 | h4
        · exact h3 h4
        · omega
      clear hlt hvb HROW HIN
      obtain ⟨ys, hful, hlc, hcm⟩ := full_row HRW.out
      have HL : Hid (wr.ownsRow 0 32 1 (.slice pa pc pc) pc ys) := hful
      have HEQ : Hid ((Value.slice pa pc pc).ownBlock = (Value.slice pa ps.length pc).ownBlock) := by cases pa <;> rfl
      obtain ⟨vo, vc, hv⟩ := row_form (HIk.out.row 4 (by omega))
      have HV : Hid (Sk.v 4 = .slice vo (Sk.xs 4).length vc) := hv
      have hKN := HIk.out.len 4 (by omega)
      have hq := HIk.out.qlt
      have HBX : Hid (∀ W : World, W.heap[Q]? = wr.heap[Q]? → W.heap[Q]? = some (.cells #[Sk.v 0, Sk.v 1, Sk.v 2, Sk.v 3, .slice vo (Sk.xs 4).length vc] 30 (0, 0))) := fun W hW => by
        rw [hW, HIk.out.box, hv]
      have HQA : Hid ((Value.slice pa pc pc).ownBlock ≠ some Q) := fun e => (HVB.out Q (HEQ.out.symm.trans e)).2.2 ⟨_, HIk.out.q⟩
      have HNK : Hid (k = ps.length) := hke
      generalize hK : (Sk.xs 4).length = K at *
      have HK : Hid ((Sk.xs 4).length = K) := hK
      unfold maxLen at hcm
      have hKm : K ≤ 1000000000000 := by omega
      have hM : IntKind.i64.wrap (-1 - (K : Int)) = -1 - (K : Int) := wrapEq _ (by omega)
      clear hv hful hK hKN HRW HG
      generalize wr = w1 at *
      go_wp2_with fail
      go_loopg [6] pc (fun g iv wr => ∃ (i : Nat) (gs : List Nat), i ≤ pc ∧ g = pc - i ∧ iv = .int .i64 i ∧ gs.length = i ∧ Hid (w1.grownBy wr (Value.slice pa pc pc).ownBlock) ∧ Hid (∀ g ∈ gs, w1.heap.size ≤ g ∧ g < wr.heap.size ∧ wr.heap[g]? = some (.cells #[.int .i64 (-1 - (K : Int)), .int .i64 0, .int .i64 0] 42 (0, 0))) ∧ Hid (∃ zs, wr.ownsRow 0 32 1 (.slice pa pc pc) pc (gs.map (fun g => Value.slice (some ⟨g, 0, none⟩) 1 1) ++ zs)))
      case atStart => exact ⟨0, [], by omega, rfl, rfl, rfl, grown_refl _ _, fun g hg => by simp at hg, ys, by simpa using HL.out⟩
      case round =>
        obtain ⟨i, gs, hi', hg, rfl, hgl, HG1, HGS, HO1⟩ := hrel
        have HG : Hid _ := hg
        clear hg
        have hbx := HBX.out wr (HG1.out.block Q hq (fun e => HQA.out e.symm))
        obtain ⟨⟨x0, x1, x2, x3, x4⟩, y0, y1, y2, y3, y4⟩ := five_cell hbx
        have hqw : Q < wr.heap.size := block_lt hbx
        have hw1 := HG1.out.size
        by_cases hlt : i < pc
        · obtain ⟨zs, hrow⟩ := HO1.out
          obtain ⟨g, rfl⟩ : ∃ g, pa = some ⟨g, 0, none⟩ := by
            rcases hrow.2 with ⟨h, h0⟩ | ⟨g, c', cur, h, _⟩
            · omega
            · simp at h; exact ⟨g, h.1⟩
          have hxl := hrow.1
          rw [List.length_append, List.length_map, hgl] at hxl
          obtain ⟨z, zs, rfl⟩ : ∃ z zs', zs = z :: zs' := by
            cases zs with
            | nil => simp at hxl; omega
            | cons z zs => exact ⟨z, zs, rfl⟩
          obtain ⟨u0, hu0⟩ : ∃ y, wr.cell? ⟨g, i, none⟩ = some y := ⟨_, by rw [hrow.cellAt i (by omega)]; exact List.getElem?_eq_getElem (by simp [hgl])⟩
          have hf0 := hrow.frozenAt i
          have hgw : g < wr.heap.size := World.block_lt_of_cell? wr _ hu0
          have hgne : ¬ g = wr.heap.size := by omega
          have hiI : 0 ≤ (i : Int) ∧ (i : Int) < (pc : Int) := by omega
          have HR1 : Hid _ := hrow
          have HGL : Hid (gs.length = i) := hgl
          clear hrow hxl hbx x0 x1 x2 x3 y0 y1 y2 y3 hgl
          go_wp2
          go_roundg (pc - (i + 1))
          case measure => have := HG.out; omega
          case rel =>
            refine ⟨i + 1, gs ++ [wr.heap.size], by omega, rfl, by go_num, by simp [HGL.out], ?_, ?_, zs, ?_⟩
            · exact grown_alloc (grown_set HG1.out rfl _ _) _
            · intro x hx
              rcases List.mem_append.1 hx with h | h
              · obtain ⟨h1, h2, h3⟩ := HGS.out x h
                have hxg : x ≠ g := fun e => by
                  subst e
                  have := (HVB.out x (by rw [← HEQ.out]; rfl)).2.1
                  omega
                refine ⟨h1, by simp; omega, ?_⟩
                rw [Below.heap_alloc _ _ _ (by rw [set_size]; exact h2), set_other _ hxg]
                exact h3
              · simp at h
                subst h
                refine ⟨hw1, by simp, ?_⟩
                have := heap_alloc_new (wr.setCell ⟨g, i, none⟩ (.slice (some ⟨wr.heap.size, 0, none⟩) 1 1)) (.cells #[.int .i64 (-1 - (K : Int)), .int .i64 0, .int .i64 0] 42 (0, 0))
                rw [set_size] at this
                exact this
            · have := (World.ownsRow.stored HR1.out i (.slice (some ⟨wr.heap.size, 0, none⟩) 1 1)).1
              have e : (gs.map (fun g => Value.slice (some ⟨g, 0, none⟩) 1 1) ++ z :: zs).set i (.slice (some ⟨wr.heap.size, 0, none⟩) 1 1) = (gs ++ [wr.heap.size]).map (fun g => Value.slice (some ⟨g, 0, none⟩) 1 1) ++ zs := by
                rw [List.set_append_right _ _ (by simp [HGL.out])]
                simp [HGL.out]
              rw [e] at this
              exact this.alloc _
        · have hie : i = pc := by omega
          subst hie
          have hlt' : ¬ (i : Int) < (i : Int) := by omega
          obtain ⟨zs, hrow⟩ := HO1.out
          have HFP : Hid (FullP wr (.slice pa i i) K ((Value.slice pa i i).ownBlock.toList ++ gs)) := by
            have hxl := hrow.1
            rw [List.length_append, List.length_map, hgl] at hxl
            obtain rfl : zs = [] := List.eq_nil_of_length_eq_zero (by omega)
            rw [List.append_nil] at hrow
            refine ⟨pa, i, _, rfl, hrow, fun m hm => ?_⟩
            have hm' : m < gs.length := by omega
            have hmem : gs[m] ∈ gs := List.getElem_mem hm'
            exact ⟨gs[m], by simp [hm'], (HGS.out _ hmem).2.2, List.mem_append_right _ hmem⟩
          have HI1 : Hid (Inv wr Q Sk (N + k)) := HIk.out.frame (grown_moved HG1.out (fun x => (Value.slice pa i i).ownBlock = some x) (fun _ h => h)) (fun x hx h => (HVB.out x (HEQ.out.symm.trans h)).2.2 hx)
          have HR1 : Hid (wr.ownsRow 0 27 1 (.slice vo K vc) K (Sk.xs 4)) := by
            have := HI1.out.row 4 (by omega)
            rw [HV.out, HK.out] at this
            exact this
          have HFX : Hid (∀ x ∈ (Value.slice pa i i).ownBlock.toList ++ gs, ¬ Sk.own x ∧ x < wr.heap.size) := by
            intro x hx
            rcases List.mem_append.1 hx with h | h
            · simp at h
              exact ⟨(HVB.out x (HEQ.out.symm.trans h)).2.2, (World.ownsRow.lt hrow x h).2⟩
            · obtain ⟨h1, h2, _⟩ := HGS.out x h
              exact ⟨fun ho => by have := HIk.out.own_lt ho; omega, h2⟩
          clear hrow HO1 hlt hlt' HG
          have HNE : Hid ((Value.slice vo K vc).ownBlock ≠ some Q) := by
            have := HI1.out.rowNe (j := 4) (by omega)
            rw [HV.out] at this
            exact this
          have HB1 : Hid _ := hbx
          clear hbx
          go_wp2_with (at_builtin; refine wpList_append_lies _ rfl _ _ 28 rfl 0 27 ib (.slice none 0 0) 1 24 Tryz.underlying28 hi hz0 hz1 hz2 rfl (by decide) _ _ _ rfl (World.ownsRow.alloc HR1.out _) ⟨wr.heap.size, 0, none⟩ 1 1 [.slice pa i i] rfl rfl ?b1 ?b2 (by decide) ?b3 ?b4 ?b5 _ rfl ?_)
          case b1 => intro j u hj; exact cell_new1 _ _ _ j u hj
          case b2 => intro u hu; simp at hu; subst hu; rfl
          case b3 => unfold maxLen; omega
          case b4 => omega
          case b5 => exact Nat.zero_le _
          intro g cap w2 hown2 hgrow2 hat hlt2
          have hb2 : w2.heap[Q]? = _ := (hgrow2.block Q (by simp; omega) (fun e => HNE.out e.symm)).trans ((Below.heap_alloc _ _ _ hqw).trans HB1.out)
          obtain ⟨⟨k0, k1, k2, k3, k4⟩, l0, l1, l2, l3, l4⟩ := five_cell hb2
          have hqw2 : Q < w2.heap.size := block_lt hb2
          have HD : Hid _ := push_done (j := 4) (x := .slice pa i i) (F := (Value.slice pa i i).ownBlock.toList ++ gs) (g := g) (cap := cap) HI1.out (by omega) ((Below.refl _ wr).alloc (Nat.le_refl _) _) (by rw [HV.out]; exact hgrow2) (by rw [HK.out]; exact hown2) (by
            rw [HV.out]
            rcases hat with h | h
            · exact .inl h
            · exact .inr (by rw [h]; simp)) (by rw [HK.out]; exact ⟨HFP.out, fun x hx => by simp [hx]⟩) HFX.out
          rw [HK.out] at HD
          clear hb2 hown2 hgrow2 hat x0 x1 x2 x3 x4 y0 y1 y2 y3 y4
          go_wp2
          go_end0
          refine ⟨rfl, _, by have := HD.out.1; rw [HNK.out] at this; exact this, ?_⟩
          have hm1 : Moved w1 wr (fun x => Sk.own x ∨ (Value.slice pa i i).ownBlock = some x) (fun x => Sk.own x ∨ x ∈ (Value.slice pa i i).ownBlock.toList ++ gs) := by
            refine ⟨HG1.out.os, HG1.out.tape, HG1.out.output, HG1.out.size, fun x hx hn => HG1.out.block x hx (fun e => hn (.inr e.symm)), ?_⟩
            rintro x (h | h)
            · exact .inl (.inl h)
            · rcases List.mem_append.1 h with h1 | h1
              · simp at h1; exact .inl (.inr h1)
              · exact .inr (HGS.out x h1).1
          refine ((HMk.out.plus (fun x => (Value.slice pa i i).ownBlock = some x)).trans (hm1.trans HD.out.2)).mono ?_ (fun _ h => h)
          rintro x ((h | h) | h)
          · exact .inl h
          · exact .inr (HRB.out k x hk h).1
          · exact .inr (HVB.out x (HEQ.out.symm.trans h)).1
end Go.Proofs.YtnpnaglgllcpfaaGreat

/- Everything that came out is looked at: it reads as its owner left it. -/
namespace Go.Proofs.YtnpnaglgllcpfaaGreat
set_option maxRecDepth 100000
open Go.RowKit

theorem Inv.cellAt {w : World} {Q N j k : Nat} {S : St} (h : Inv w Q S N) (hj : j < 5) (hk : k < (S.xs j).length) : ∃ g cap, S.v j = .slice (some ⟨g, 0, none⟩) (S.xs j).length cap ∧ g < w.heap.size ∧ w.cell? ⟨g, k, none⟩ = some ((S.xs j).getD k (.int .i64 0)) := by
  have hr := h.row j hj
  rcases hr.2 with ⟨_, h0⟩ | ⟨g, cap, cur, hv, _⟩
  · omega
  · refine ⟨g, cap, hv, (World.ownsRow.lt hr g (by rw [hv]; rfl)).2, ?_⟩
    rw [hv] at hr
    rw [hr.cellAt k (by omega)]
    simp [List.getD, hk]
theorem FullB.at {w : World} {x : Value} {k : Nat} (h : FullB w x k) : ∃ a n, x = .slice a n n ∧ n ≤ 9223372036854775807 ∧ ∀ i, i < n → ∃ g, a = some ⟨g, 0, none⟩ ∧ g < w.heap.size ∧ w.cell? ⟨g, i, none⟩ = some (.int .u8 ((UInt8.ofNat k).toNat : Int)) := by
  obtain ⟨a, n, rfl, h1⟩ := h
  have h1' : w.ownsRow 0 5 1 (.slice a n n) n (cellsB (List.replicate n (UInt8.ofNat k))) := by
    have h2 : w.ownsRow 0 5 1 (.slice a n n) (List.replicate n (UInt8.ofNat k)).length (cellsB (List.replicate n (UInt8.ofNat k))) := h1
    rw [List.length_replicate] at h2
    exact h2
  refine ⟨a, n, rfl, own_max h1', fun i hi => ?_⟩
  rcases h1'.2 with ⟨_, h0⟩ | ⟨g, cap, cur, hv, _, hg, _⟩
  · omega
  · simp at hv
    obtain ⟨rfl, rfl⟩ := hv
    refine ⟨g, rfl, (Array.getElem?_eq_some_iff.1 hg).1, ?_⟩
    rw [h1'.cellAt i (by omega)]
    simp [cellsB, hi]
theorem FullT.at {w : World} {x : Value} {k : Nat} (h : FullT w x k) : ∃ a n, x = .slice a n n ∧ n ≤ 9223372036854775807 ∧ ∀ i, i < n → ∃ g, a = some ⟨g, 0, none⟩ ∧ g < w.heap.size ∧ w.cell? ⟨g, i * 3, none⟩ = some (.int .i64 (-1 - (k : Int))) ∧ w.cell? ⟨g, i * 3 + 1, none⟩ = some (.int .i64 0) ∧ w.cell? ⟨g, i * 3 + 2, none⟩ = some (.int .i64 0) := by
  obtain ⟨a, n, rfl, h1⟩ := h
  have h1' : w.ownsRow 0 42 3 (.slice a n n) n (cellsT (List.replicate n ⟨-1 - (k : Int), 0, 0⟩)) := by
    have h2 : w.ownsRow 0 42 3 (.slice a n n) (List.replicate n (⟨-1 - (k : Int), 0, 0⟩ : Tok)).length (cellsT (List.replicate n ⟨-1 - (k : Int), 0, 0⟩)) := h1
    rw [List.length_replicate] at h2
    exact h2
  refine ⟨a, n, rfl, own_max h1', fun i hi => ?_⟩
  rcases h1'.2 with ⟨_, h0⟩ | ⟨g, cap, cur, hv, _, hg, _⟩
  · omega
  · simp at hv
    obtain ⟨rfl, rfl⟩ := hv
    obtain ⟨g0, g1, g2⟩ := cellsT_get (List.replicate n (⟨-1 - (k : Int), 0, 0⟩ : Tok)) i (by simpa using hi)
    refine ⟨g, rfl, (Array.getElem?_eq_some_iff.1 hg).1, ?_, ?_, ?_⟩
    · rw [h1'.cellAt _ (by omega), g0]; simp
    · rw [h1'.cellAt _ (by omega), g1]; simp
    · rw [h1'.cellAt _ (by omega), g2]; simp
theorem FullP.at {w : World} {x : Value} {k : Nat} {F : List Nat} (h : FullP w x k F) : ∃ a n, x = .slice a n n ∧ n ≤ 9223372036854775807 ∧ ∀ i, i < n → ∃ g q, a = some ⟨g, 0, none⟩ ∧ g < w.heap.size ∧ q < w.heap.size ∧ w.cell? ⟨g, i, none⟩ = some (.slice (some ⟨q, 0, none⟩) 1 1) ∧ w.cell? ⟨q, 0, none⟩ = some (.int .i64 (-1 - (k : Int))) := by
  obtain ⟨a, n, vs, rfl, h1, h2⟩ := h
  refine ⟨a, n, rfl, own_max h1, fun i hi => ?_⟩
  obtain ⟨q, g1, g2, _⟩ := h2 i hi
  rcases h1.2 with ⟨_, h0⟩ | ⟨g, cap, cur, hv, _, hg, _⟩
  · omega
  · simp at hv
    obtain ⟨rfl, rfl⟩ := hv
    refine ⟨g, q, rfl, (Array.getElem?_eq_some_iff.1 hg).1, (Array.getElem?_eq_some_iff.1 g2).1, ?_, (trio_cell g2).1.1⟩
    rw [h1.cellAt i (by omega)]
    exact g1
theorem Inv.byteAt {w : World} {Q N k : Nat} {S : St} (h : Inv w Q S N) (hk : k < (S.xs 2).length) : ∃ g cap a n, S.v 2 = .slice (some ⟨g, 0, none⟩) (S.xs 2).length cap ∧ g < w.heap.size ∧ w.cell? ⟨g, k, none⟩ = some (.slice a n n) ∧ n ≤ 9223372036854775807 ∧ ∀ i, i < n → ∃ g, a = some ⟨g, 0, none⟩ ∧ g < w.heap.size ∧ w.cell? ⟨g, i, none⟩ = some (.int .u8 ((UInt8.ofNat k).toNat : Int)) := by
  obtain ⟨g, cap, h1, h2, h3⟩ := h.cellAt (j := 2) (by omega) hk
  obtain ⟨a, n, h4, h5⟩ := FullB.at (h.good 2 k (by omega) hk).1
  exact ⟨g, cap, a, n, h1, h2, by rw [h3, h4], h5⟩
theorem Inv.tokAt {w : World} {Q N k : Nat} {S : St} (h : Inv w Q S N) (hk : k < (S.xs 3).length) : ∃ g cap a n, S.v 3 = .slice (some ⟨g, 0, none⟩) (S.xs 3).length cap ∧ g < w.heap.size ∧ w.cell? ⟨g, k, none⟩ = some (.slice a n n) ∧ n ≤ 9223372036854775807 ∧ ∀ i, i < n → ∃ g, a = some ⟨g, 0, none⟩ ∧ g < w.heap.size ∧ w.cell? ⟨g, i * 3, none⟩ = some (.int .i64 (-1 - (k : Int))) ∧ w.cell? ⟨g, i * 3 + 1, none⟩ = some (.int .i64 0) ∧ w.cell? ⟨g, i * 3 + 2, none⟩ = some (.int .i64 0) := by
  obtain ⟨g, cap, h1, h2, h3⟩ := h.cellAt (j := 3) (by omega) hk
  obtain ⟨a, n, h4, h5⟩ := FullT.at (h.good 3 k (by omega) hk).1
  exact ⟨g, cap, a, n, h1, h2, by rw [h3, h4], h5⟩
theorem Inv.pieceAt {w : World} {Q N k : Nat} {S : St} (h : Inv w Q S N) (hk : k < (S.xs 4).length) : ∃ g cap a n, S.v 4 = .slice (some ⟨g, 0, none⟩) (S.xs 4).length cap ∧ g < w.heap.size ∧ w.cell? ⟨g, k, none⟩ = some (.slice a n n) ∧ n ≤ 9223372036854775807 ∧ ∀ i, i < n → ∃ g q, a = some ⟨g, 0, none⟩ ∧ g < w.heap.size ∧ q < w.heap.size ∧ w.cell? ⟨g, i, none⟩ = some (.slice (some ⟨q, 0, none⟩) 1 1) ∧ w.cell? ⟨q, 0, none⟩ = some (.int .i64 (-1 - (k : Int))) := by
  obtain ⟨g, cap, h1, h2, h3⟩ := h.cellAt (j := 4) (by omega) hk
  obtain ⟨a, n, h4, h5⟩ := FullP.at (h.good 4 k (by omega) hk).1
  exact ⟨g, cap, a, n, h1, h2, by rw [h3, h4], h5⟩

set_option maxHeartbeats 4000000 in
theorem looks_calls (Q N : Nat) (S : St) (w : World) (hI : Inv w Q S N) (hN : N ≤ 1000000000000) :
    Calls Tryz.prog 5 #[.pointer (some ⟨Q, 0, none⟩)] w fun e w' => e = .returned (.bool true) ∧ ∃ n, w' = w.drewN n := by
  have HI : Hid (Inv w Q S N) := hI
  obtain ⟨bo, bc, hv2⟩ := row_form (hI.row 2 (by omega))
  obtain ⟨to, tc, hv3⟩ := row_form (hI.row 3 (by omega))
  obtain ⟨po, pc, hv4⟩ := row_form (hI.row 4 (by omega))
  have HV2 : Hid _ := hv2
  have HV3 : Hid _ := hv3
  have HV4 : Hid _ := hv4
  have hl2 := hI.len 2 (by omega)
  have hl3 := hI.len 3 (by omega)
  have hl4 := hI.len 4 (by omega)
  have hq := hI.qlt
  have hbx := hI.box
  rw [hv2, hv3, hv4] at hbx
  obtain ⟨⟨_, _, x2, x3, x4⟩, _⟩ := five_cell hbx
  generalize hK2 : (S.xs 2).length = K2 at *
  generalize hK3 : (S.xs 3).length = K3 at *
  generalize hK4 : (S.xs 4).length = K4 at *
  have HK2 : Hid _ := hK2
  have HK3 : Hid _ := hK3
  have HK4 : Hid _ := hK4
  clear hI hv2 hv3 hv4 hbx hK2 hK3 hK4
  go_enter Tryz.func5, Tryz.ntmps5
  go_wp2_with fail
  go_loopw [3, 4] (fun i _ wr => ∃ (k : Nat), k ≤ K2 ∧ i = .int .i64 k ∧ ∃ n, wr = w.drewN n) (fun i _ _ => K2 - (intOf i).toNat)
  case atStart => exact ⟨0, Nat.zero_le _, rfl, 0, rfl⟩
  case round =>
    obtain ⟨k, hk, rfl, nd, rfl⟩ := hrel
    by_cases hlt : k < K2
    · obtain ⟨gb, cap, a, n, hv, hgb, c0, hn, hcell⟩ := HI.out.byteAt (k := k) (by rw [HK2.out]; exact hlt)
      rw [HV2.out] at hv
      simp at hv
      obtain ⟨rfl, _, rfl⟩ := hv
      have HC : Hid (∀ i, i < n → ∃ g, a = some ⟨g, 0, none⟩ ∧ g < w.heap.size ∧ w.cell? ⟨g, i, none⟩ = some (.int .u8 ((UInt8.ofNat k).toNat : Int))) := hcell
      have hkI : 0 ≤ (k : Int) ∧ (k : Int) < (K2 : Int) := by omega
      have hM := byte_wrap k
      generalize UInt8.ofNat k = M at *
      clear hcell
      go_wp2_with fail
      go_loopw [4] (fun i wr => ∃ (m : Nat), m ≤ n ∧ i = .int .i64 m ∧ ∃ nd, wr = w.drewN nd) (fun i _ => n - (intOf i).toNat)
      case atStart => exact ⟨0, Nat.zero_le _, rfl, _, rfl⟩
      case round =>
        obtain ⟨m, hm, rfl, nd2, rfl⟩ := hrel
        by_cases hltm : m < n
        · obtain ⟨g, rfl, hg, c1⟩ := HC.out m hltm
          have hmI : 0 ≤ (m : Int) ∧ (m : Int) < (n : Int) := by omega
          have e0 : ((M.toNat : Int) != (M.toNat : Int)) = false := by simp
          go_wp2
          go_roundw
          case rel => exact ⟨m + 1, by omega, by go_num, _, rfl⟩
          case measure => simp [intOf]; omega
        · have hltm' : ¬ (m : Int) < (n : Int) := by omega
          go_wp2
          go_roundw
          case rel => exact ⟨k + 1, by omega, by go_num, _, rfl⟩
          case measure => simp [intOf]; omega
    · have hlt' : ¬ (k : Int) < (K2 : Int) := by omega
      clear hlt
      go_wp2_with fail
      go_loopw [5, 6] (fun i _ wr => ∃ (k : Nat), k ≤ K3 ∧ i = .int .i64 k ∧ ∃ n, wr = w.drewN n) (fun i _ _ => K3 - (intOf i).toNat)
      case atStart => exact ⟨0, Nat.zero_le _, rfl, _, rfl⟩
      case round =>
        obtain ⟨k3, hk3, rfl, nd, rfl⟩ := hrel
        by_cases hlt : k3 < K3
        · obtain ⟨gb, cap, a, n, hv, hgb, c0, hn, hcell⟩ := HI.out.tokAt (k := k3) (by rw [HK3.out]; exact hlt)
          rw [HV3.out] at hv
          simp at hv
          obtain ⟨rfl, _, rfl⟩ := hv
          have HC : Hid (∀ i, i < n → ∃ g, a = some ⟨g, 0, none⟩ ∧ g < w.heap.size ∧ w.cell? ⟨g, i * 3, none⟩ = some (.int .i64 (-1 - (k3 : Int))) ∧ w.cell? ⟨g, i * 3 + 1, none⟩ = some (.int .i64 0) ∧ w.cell? ⟨g, i * 3 + 2, none⟩ = some (.int .i64 0)) := hcell
          have hkI : 0 ≤ (k3 : Int) ∧ (k3 : Int) < (K3 : Int) := by omega
          have hM : IntKind.i64.wrap (-1 - (k3 : Int)) = -1 - (k3 : Int) := wrapEq _ (by omega)
          clear hcell
          go_wp2_with fail
          go_loopw [6] (fun i wr => ∃ (m : Nat), m ≤ n ∧ i = .int .i64 m ∧ ∃ nd, wr = w.drewN nd) (fun i _ => n - (intOf i).toNat)
          case atStart => exact ⟨0, Nat.zero_le _, rfl, _, rfl⟩
          case round =>
            obtain ⟨m, hm, rfl, nd2, rfl⟩ := hrel
            by_cases hltm : m < n
            · obtain ⟨g, rfl, hg, c1, c2, c3⟩ := HC.out m hltm
              have hmI : 0 ≤ (m : Int) ∧ (m : Int) < (n : Int) := by omega
              have e0 : ((-1 - (k3 : Int)) != (-1 - (k3 : Int))) = false := by simp
              have e1 : ((0 : Int) != (0 : Int)) = false := by simp
              go_wp2_with fail
              exact ⟨⟨m + 1, by omega, by go_num, _, rfl⟩, by simp [intOf]; omega⟩
            · have hltm' : ¬ (m : Int) < (n : Int) := by omega
              go_wp2
              go_roundw
              case rel => exact ⟨k3 + 1, by omega, by go_num, _, rfl⟩
              case measure => simp [intOf]; omega
        · have hlt' : ¬ (k3 : Int) < (K3 : Int) := by omega
          clear hlt
          go_wp2_with fail
          go_loopw [7, 8] (fun i _ wr => ∃ (k : Nat), k ≤ K4 ∧ i = .int .i64 k ∧ ∃ n, wr = w.drewN n) (fun i _ _ => K4 - (intOf i).toNat)
          case atStart => exact ⟨0, Nat.zero_le _, rfl, _, rfl⟩
          case round =>
            obtain ⟨k4, hk4, rfl, nd, rfl⟩ := hrel
            by_cases hlt : k4 < K4
            · obtain ⟨gb, cap, a, n, hv, hgb, c0, hn, hcell⟩ := HI.out.pieceAt (k := k4) (by rw [HK4.out]; exact hlt)
              rw [HV4.out] at hv
              simp at hv
              obtain ⟨rfl, _, rfl⟩ := hv
              have HC : Hid (∀ i, i < n → ∃ g q, a = some ⟨g, 0, none⟩ ∧ g < w.heap.size ∧ q < w.heap.size ∧ w.cell? ⟨g, i, none⟩ = some (.slice (some ⟨q, 0, none⟩) 1 1) ∧ w.cell? ⟨q, 0, none⟩ = some (.int .i64 (-1 - (k4 : Int)))) := hcell
              have hkI : 0 ≤ (k4 : Int) ∧ (k4 : Int) < (K4 : Int) := by omega
              have hM : IntKind.i64.wrap (-1 - (k4 : Int)) = -1 - (k4 : Int) := wrapEq _ (by omega)
              clear hcell
              go_wp2_with fail
              go_loopw [8] (fun i wr => ∃ (m : Nat), m ≤ n ∧ i = .int .i64 m ∧ ∃ nd, wr = w.drewN nd) (fun i _ => n - (intOf i).toNat)
              case atStart => exact ⟨0, Nat.zero_le _, rfl, _, rfl⟩
              case round =>
                obtain ⟨m, hm, rfl, nd2, rfl⟩ := hrel
                by_cases hltm : m < n
                · obtain ⟨g, q, rfl, hg, hq', c1, c2⟩ := HC.out m hltm
                  have hmI : 0 ≤ (m : Int) ∧ (m : Int) < (n : Int) := by omega
                  have e0 : ((-1 - (k4 : Int)) != (-1 - (k4 : Int))) = false := by simp
                  have e1 : ((1 : Int) != (1 : Int)) = false := by simp
                  go_wp2_with fail
                  exact ⟨⟨m + 1, by omega, by go_num, _, rfl⟩, by simp [intOf]; omega⟩
                · have hltm' : ¬ (m : Int) < (n : Int) := by omega
                  go_wp2
                  go_roundw
                  case rel => exact ⟨k4 + 1, by omega, by go_num, _, rfl⟩
                  case measure => simp [intOf]; omega
            · have hlt' : ¬ (k4 : Int) < (K4 : Int) := by omega
              go_wp2
              go_ret
              exact ⟨rfl, _, rfl⟩
end Go.Proofs.YtnpnaglgllcpfaaGreat
