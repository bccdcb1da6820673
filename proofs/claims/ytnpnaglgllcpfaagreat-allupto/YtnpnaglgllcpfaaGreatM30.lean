/-
  Lemmas for the law All: Rnk, Nths0, Ga, Gp, Gq, Wys.
-/
import Derived.Test.YtnpnaglgllcpfaaGreatM29
import Derived.Test.YtnpnaglgllcpfaaGreatM28
import Derived.Test.YtnpnaglgllcpfaaGreatM11
import Derived.Test.YtnpnaglgllcpfaaGreatM23
import Derived.Test.YtnpnaglgllcpfaaGreatM13
import Derived.Test.YtnpnaglgllcpfaaGreatM14
import Derived.Test.YtnpnaglgllcpfaaGreatM24
import Derived.Test.YtnpnaglgllcpfaaGreatM20
import Derived.Laws.IdiomStrings
import Derived.Laws.BytesArg
/- How many best lists go ahead of one: pressref.Rank, pressref.Numbered. -/
namespace Go.Proofs.YtnpnaglgllcpfaaGreat
set_option maxRecDepth 100000
open Go.RowKit
open Dp

set_option maxHeartbeats 1000000 in
theorem rank_calls (a b : Option Addr) (p : List UInt8) (ts : List Tok) (cap cb : Nat) (w : World) (hp : p.length ≤ 64) (hl : ts.length ≤ 64) (hb : BytesAt w a p) (ht : ToksAt w b ts) (hpath : tpath p 0 ts) :
    Calls Tryz.prog 88 #[.slice a p.length cap, .slice b ts.length cb] w fun e w' => Below w.heap.size w w' ∧ e = .returned (.int .i64 (rankN p ts)) := by
  have HB : Hid (BytesAt w a p) := hb
  have HT : Hid (ToksAt w b ts) := ht
  have HP : Hid (tpath p 0 ts) := hpath
  clear hb ht hpath
  go_enter Tryz.func88, Tryz.ntmps88
  go_wp2_with fail
  refine (to_calls a p cap w hp HB.out).mono ?_
  rintro e w1 ⟨hb1, q, gc, gw, cc, cw, cs, ws, hq, hgc, hgw, rfl, hk1, hr1⟩
  have HB1 : Hid (Below w.heap.size w w1) := hb1
  have HK1 : Hid (KnownAt w1 q gc gw cc cw cs ws) := hk1
  have HR1 : Hid (Rep p.length cs ws (fun j => (net p).to j)) := hr1
  have hs1 := hb1.size
  clear hb1 hk1 hr1
  go_wp2_with fail
  go_loopg [6, 7, 8] ts.length (fun g nv av iv wr => ∃ (k acc at' : Nat), k ≤ ts.length ∧ g = ts.length - k ∧ iv = .int .i64 k ∧ nv = .int .i64 acc ∧ av = .int .i64 at' ∧ acc ≤ 1000000000 ∧ at' ≤ p.length ∧ Hid (tpath p at' (ts.drop k)) ∧ Hid (rankN p ts = rankGo p at' acc (ts.drop k)) ∧ Hid (Below w1.heap.size w1 wr))
  case atStart => exact ⟨0, 0, 0, by omega, rfl, rfl, rfl, rfl, by omega, by omega, HP, rfl, Below.refl _ _⟩
  case round =>
    obtain ⟨k, acc, at', hk, hg, rfl, rfl, rfl, hacc, hat, HPK, HRK, HBW⟩ := hrel
    have HG : Hid _ := hg
    clear hg
    by_cases hlt : k < ts.length
    · have hdr : ts.drop k = ts[k] :: ts.drop (k + 1) := List.drop_eq_getElem_cons hlt
      have hp1 := HPK.out
      have hr2 := HRK.out
      rw [hdr] at hp1 hr2
      obtain ⟨hi, hmem, hp2⟩ := hp1
      have hol := out_len p at' hi _ hmem
      obtain ⟨bb, off, ha, hbl, hcell⟩ : ∃ bb off, b = some ⟨bb, off, none⟩ ∧ bb < wr.heap.size ∧ ∀ i (hi : i < ts.length),
          wr.cell? ⟨bb, off + i * 3, none⟩ = some (.int .i64 ts[i].len) ∧ wr.cell? ⟨bb, off + i * 3 + 1, none⟩ = some (.int .i64 ts[i].dist) ∧ wr.cell? ⟨bb, off + i * 3 + 2, none⟩ = some (.int .i64 ts[i].byte) := by
        rcases HT.out.below (HB1.out.trans (HBW.out.mono HB1.out.size)) with h | h
        · rw [h] at hlt; simp at hlt
        · exact h
      subst ha
      obtain ⟨c0, c1, c2⟩ := hcell k hlt
      generalize ts[k] = t at *
      obtain ⟨tl, td, tb⟩ := t
      simp only at c0 c1 c2 hol hp2
      have HP2 : Hid (tpath p (at' + tl.toNat) (ts.drop (k + 1))) := hp2
      have HR2 : Hid (rankN p ts = rankGo p (at' + tl.toNat) (min (acc + aheadN p at' ⟨tl, td, tb⟩) 1000000000) (ts.drop (k + 1))) := hr2
      have hah := aheadN_le p at' ⟨tl, td, tb⟩ hp hat
      have HBW0 : Hid (Below w.heap.size w wr) := HB1.out.trans (HBW.out.mono HB1.out.size)
      have HKW : Hid (KnownAt wr q gc gw cc cw cs ws) := HK1.out.below HBW.out
      clear hcell hdr hmem hp2 hr2
      go_wp2_with fail
      refine (ahead_calls a p cap q gc gw cc cw cs ws at' tl td tb wr hp (bytesAt_below2 HB.out HBW0.out) HKW.out HR1.out hi).mono ?_
      rintro e w3 ⟨hb3, rfl⟩
      have HB3 : Hid (Below w1.heap.size w1 w3) := HBW.out.trans (hb3.mono HBW.out.size)
      have d0 := cell_kept hb3 c0
      clear hb3 c1 c2
      generalize hAH : aheadN p at' ⟨tl, td, tb⟩ = A at *
      go_wp2_with fail
      refine (capped_calls _ _).mono ?_
      rintro e w4 ⟨rfl, rfl⟩
      have hmin : cap9 ((acc : Int) + (A : Int)) = ((min (acc + A) 1000000000 : Nat) : Int) := by unfold cap9; omega
      rw [hmin]
      have hml : min (acc + A) 1000000000 ≤ 1000000000 := by omega
      generalize min (acc + A) 1000000000 = M at *
      obtain ⟨L, hL⟩ : ∃ L : Nat, tl = (L : Int) := ⟨tl.toNat, by omega⟩
      subst hL
      have HLN : Hid ((L : Int).toNat = L) := Int.toNat_natCast L
      rw [HLN.out] at HP2 HR2 hol
      clear hmin
      go_wp2
      go_roundg (ts.length - (k + 1))
      case measure => have := HG.out; omega
      case rel => exact ⟨k + 1, M, at' + L, by omega, rfl, by go_num, rfl, by go_num, hml, by omega, HP2, HR2, HB3⟩
    · have hke : k = ts.length := by omega
      have HZ : Hid (rankN p ts = acc) := by
        show _ = _
        rw [HRK.out, hke, List.drop_length]; rfl
      go_wp2
      go_ret
      exact ⟨HB1.out.trans (HBW.out.mono HB1.out.size), by rw [HZ.out]; rfl⟩
set_option maxHeartbeats 1000000 in
theorem numberedRef_calls (a b : Option Addr) (p : List UInt8) (k : Int) (ts : List Tok) (e : Int) (cap cb : Nat) (w : World) (hl : ts.length ≤ 9223372036854775807) (hpl : p.length ≤ 9223372036854775807) (hb : BytesAt w a p) (ht : ToksAt w b ts) (hok : NumOk p k ts e) :
    Calls Tryz.prog 57 #[.slice a p.length cap, .int .i64 k, .slice b ts.length cb, .int .i64 e] w fun r w' => Below w.heap.size w w' ∧ r = .returned (.bool true) := by
  have HB : Hid (BytesAt w a p) := hb
  have HT : Hid (ToksAt w b ts) := ht
  clear hb ht
  rcases hok with ⟨h1, rfl, rfl⟩ | ⟨h1, h2, rfl, rfl⟩ | ⟨h1, h2, h3, rfl, h4, h5⟩
  · go_enter Tryz.func57, Tryz.ntmps57
    go_wp2
    go_ret
    exact ⟨Below.refl _ _, rfl⟩
  · go_enter Tryz.func57, Tryz.ntmps57
    go_wp2_with fail
    refine (least_calls a p cap _ h1 HB.out).mono ?_
    rintro e w1 ⟨hb1, rfl⟩
    have HB1 : Hid (Below w.heap.size w w1) := hb1
    generalize cap9 (leastW p : Int) = U at *
    generalize leastC p = C at *
    clear hb1
    by_cases hk0 : k < 0
    · clear h2
      go_wp2
      go_ret
      exact ⟨HB1.out, rfl⟩
    · have hk1 : U ≤ k := by omega
      clear h2
      go_wp2
      go_ret
      exact ⟨HB1.out, rfl⟩
  · have h4' := (bestB_iff p ts).1 h4
    have htl : ts.length ≤ 64 := by have := Tok.expand_many ts [] p h4'.1; simp at this; omega
    have HPT : Hid (tpath p 0 ts) := (expand_tpath p h1 ts 0 (by omega)).1 (by simpa using h4'.1)
    have H4 : Hid (bestB p ts = true) := h4
    have H5 : Hid ((rankN p ts : Int) = k) := h5
    clear h4 h4' h5
    go_enter Tryz.func57, Tryz.ntmps57
    go_wp2_with fail
    refine (least_calls a p cap _ h1 HB.out).mono ?_
    rintro e w1 ⟨hb1, rfl⟩
    have HB1 : Hid (Below w.heap.size w w1) := hb1
    have hs1 := hb1.size
    generalize cap9 (leastW p : Int) = U at *
    generalize leastC p = C at *
    clear hb1
    have hk0 : ¬ k < 0 := by omega
    have hk1 : ¬ U ≤ k := by omega
    go_wp2_with fail
    refine (best_calls a b p ts cap cb _ h1 hl (bytesAt_below2 HB.out HB1.out) (HT.out.below HB1.out)).mono ?_
    rintro e w2 ⟨hb2, rfl⟩
    have HB2 : Hid (Below w.heap.size w w2) := HB1.out.trans (hb2.mono hs1)
    rw [H4.out]
    clear hb2
    go_wp2_with fail
    refine (rank_calls a b p ts cap cb _ h1 htl (bytesAt_below2 HB.out HB2.out) (HT.out.below HB2.out) HPT.out).mono ?_
    rintro e w3 ⟨hb3, rfl⟩
    have HB3 : Hid (Below w.heap.size w w3) := HB2.out.trans (hb3.mono HB2.out.size)
    rw [H5.out]
    clear hb3
    go_wp2
    go_ret
    exact ⟨HB3.out, rfl⟩
end Go.Proofs.YtnpnaglgllcpfaaGreat

/- The law Nths, out of what Nth answers. -/
namespace Go.Proofs.YtnpnaglgllcpfaaGreat
set_option maxRecDepth 100000
open Go.RowKit

set_option maxHeartbeats 1000000 in
theorem numbered_calls (f : List UInt8 → Int → List Tok) (hN : NthSaid f) (a : Option Addr) (p : List UInt8) (cap : Nat) (k : Int) (w : World) (hl : p.length ≤ 9223372036854775807) (hb : BytesAt w a p) :
    Calls Tryz.prog 30 #[.slice a p.length cap, .int .i64 k] w fun e w' => Below w.heap.size w w' ∧ ∃ v, e = .returned (.tuple #[v, .bool true]) := by
  have HB : Hid (BytesAt w a p) := hb
  have HN : Hid (NthSaid f) := hN
  clear hb hN
  go_enter Tryz.func30, Tryz.ntmps30
  go_wp2_with fail
  refine (HN.out a p cap k w hl HB.out).mono ?_
  rintro e w1 ⟨hb1, v, ts, c, rfl, hrow, hok, _⟩
  have HB1 : Hid (Below w.heap.size w w1) := hb1
  have HTK : Hid (TokRow w1 w.heap.size v ts) := hrow
  have HOK : Hid (NumOk p k ts c) := hok
  have htl := own_max hrow
  obtain ⟨to, tc, rfl⟩ := hrow.form
  clear hb1 hrow hok
  go_wp2_with ((go_at_call 36; go_in))
  refine (numberedRef_calls a to p k ts c cap tc _ htl hl (bytesAt_below2 HB.out HB1.out) (TokRow.toks HTK.out) HOK.out).mono ?_
  rintro e w2 ⟨hb2, rfl⟩
  have HB2 : Hid (Below w.heap.size w w2) := HB1.out.trans (hb2.mono HB1.out.size)
  clear hb2
  go_wp2
  go_ret2
  exact ⟨HB2.out, _, rfl⟩
end Go.Proofs.YtnpnaglgllcpfaaGreat

/- What the law's expanded, packed, parsed, numbered and compressed answer, with what they own. -/
namespace Go.Proofs.YtnpnaglgllcpfaaGreat
set_option maxRecDepth 100000
open Go.RowKit

set_option maxHeartbeats 1000000 in
theorem expanded2_calls (a : Option Addr) (ts : List Tok) (cap : Nat) (w : World) (hl : ts.length ≤ 9223372036854775807) (ht : ToksAt w a ts) :
    Calls Tryz.prog 12 #[.slice a ts.length cap] w fun e w' => Below w.heap.size w w' ∧ ∃ v out, e = .returned (.tuple #[v, .bool true]) ∧ OwnB w' w.heap.size v out := by
  have HT : Hid (ToksAt w a ts) := ht
  clear ht
  go_enter Tryz.func12, Tryz.ntmps12
  go_wp2_with fail
  refine (pressExpand_calls a ts cap w hl HT.out).mono ?_
  rintro e w1 ⟨hb1, h1⟩
  have T1 : Hid (ToksAt w1 a ts) := HT.out.below hb1
  cases he : Tok.expand [] ts with
  | none =>
    rcases h1 with ⟨_, rfl⟩ | ⟨out, v, he', _⟩
    · have HE : Hid _ := he
      clear he
      go_wp2_with fail
      refine (pressCost_calls a ts cap w1 hl T1.out).mono ?_
      rintro e w2 ⟨hb2, h2⟩
      rcases h2 with ⟨_, rfl⟩ | ⟨out, he', _⟩
      · have T2 : Hid (ToksAt w2 a ts) := T1.out.below hb2
        go_wp2_with fail
        refine (make_calls a ts cap w2 hl T2.out).mono ?_
        rintro e w3 ⟨hb3, h3⟩
        rcases h3 with ⟨_, rfl⟩ | ⟨out, v, he', _⟩
        · have hb : Below w.heap.size w w3 := (hb1.trans (hb2.mono hb1.size)).trans (hb3.mono (Nat.le_trans hb1.size hb2.size))
          clear hb1 hb2 hb3
          go_wp2
          go_ret2
          exact ⟨hb, _, [], rfl, World.ownsRow_nil _ _ _ _⟩
        · rw [HE.out] at he'; cases he'
      · rw [HE.out] at he'; cases he'
    · rw [he] at he'; cases he'
  | some out =>
    rcases h1 with ⟨he', _⟩ | ⟨out', v, he', ho, rfl, hown⟩
    · rw [he] at he'; cases he'
    · rw [he] at he'; cases he'
      have HE : Hid _ := he
      have O1 : Hid _ := hown
      clear he hown
      go_wp2_with fail
      refine (pressCost_calls a ts cap w1 hl T1.out).mono ?_
      rintro e w2 ⟨hb2, h2⟩
      rcases h2 with ⟨he', _⟩ | ⟨out', he', rfl⟩
      · rw [HE.out] at he'; cases he'
      · have T2 : Hid (ToksAt w2 a ts) := T1.out.below hb2
        go_wp2_with fail
        refine (make_calls a ts cap w2 hl T2.out).mono ?_
        rintro e w3 ⟨hb3, h3⟩
        rcases h3 with ⟨he', _⟩ | ⟨out', v', he', _, rfl, hown⟩
        · rw [HE.out] at he'; cases he'
        · rw [HE.out] at he'; cases he'
          have hb : Below w.heap.size w w3 := (hb1.trans (hb2.mono hb1.size)).trans (hb3.mono (Nat.le_trans hb1.size hb2.size))
          have T3 : Hid (ToksAt w3 a ts) := T2.out.below hb3
          have k1 := conv_own (OwnB.below (OwnB.below O1.out hb2) hb3)
          have k2 := conv_own hown
          have hlen : ts.length ≤ 64 := by have := Tok.expand_many ts [] out HE.out; simp at this; omega
          have hall := Tok.expand_all ts [] out HE.out
          have HA : Hid _ := hall
          have hcl : Tok.costs ts ≤ 31 * ts.length := Tok.costs_le ts hall
          have HO3 : Hid (OwnB w3 w.heap.size v out) := OwnB.below (OwnB.below O1.out hb2) hb3
          clear hall hown hb1 hb2 hb3
          go_wp2_with (first | (go_at_call 36; go_in) | fail)
          refine (refCost_calls a ts cap w3 hlen T3.out HA.out).mono ?_
          rintro e w4 ⟨rfl, hb4⟩
          have hbb : Below w.heap.size w w4 := hb.trans (hb4.mono hb.size)
          have HO4 : Hid (OwnB w4 w.heap.size v out) := OwnB.below HO3.out hb4
          clear hb hb4 k1 k2
          go_wp2
          go_ret2
          exact ⟨hbb, _, _, rfl, HO4.out⟩

set_option maxHeartbeats 1000000 in
theorem packed2_calls (a : Option Addr) (ps : List (List Tok)) (cap : Nat) (w : World) (hl : ps.length ≤ 9223372036854775807) (ht : PiecesAt w a ps) :
    Calls Tryz.prog 15 #[.slice a ps.length cap] w fun e w' => Below w.heap.size w w' ∧ ∃ v out, e = .returned (.tuple #[v, .bool true]) ∧ OwnB w' w.heap.size v out := by
  have HT : Hid (PiecesAt w a ps) := ht
  clear ht
  go_enter Tryz.func15, Tryz.ntmps15
  go_wp2_with fail
  refine (pack_calls a ps cap w hl HT.out).mono ?_
  rintro e w1 ⟨hb1, h1⟩
  have T1 : Hid (PiecesAt w1 a ps) := HT.out.below hb1
  obtain ⟨v1, c1, out1, rfl, o1, P1⟩ : ∃ v c out, e = .returned (.tuple #[v, .int .i64 c]) ∧ OwnB w1 w.heap.size v out ∧ PackAns ps e (fun v' out' => v' = v ∧ out' = out ∧ c = 0) ∧ (c ≠ 0 → out = []) := by
    rcases h1 with ⟨h, rfl⟩ | ⟨h, hx, rfl⟩ | ⟨h, hx, v, rfl, ho⟩
    · exact ⟨_, 1, [], rfl, World.ownsRow_nil _ _ _ _, .inl ⟨h, rfl⟩, fun _ => rfl⟩
    · exact ⟨_, 2, [], rfl, World.ownsRow_nil _ _ _ _, .inr (.inl ⟨h, hx, rfl⟩), fun _ => rfl⟩
    · exact ⟨v, 0, _, rfl, ho, .inr (.inr ⟨h, hx, v, rfl, rfl, rfl, rfl⟩), fun h => absurd rfl h⟩
  have O1 : Hid (OwnB w1 w.heap.size v1 out1) := o1
  have HP1 : Hid _ := P1
  clear o1 P1 h1
  go_wp2_with fail
  refine (refPack_calls a ps cap w1 hl T1.out).mono ?_
  rintro e w2 ⟨hb2, h2⟩
  obtain ⟨v2, c2, out2, B2, rfl, o2, P2⟩ : ∃ v c out B, e = .returned (.tuple #[v, .int .i64 c]) ∧ OwnB w2 B v out ∧ PackAns ps e (fun v' out' => v' = v ∧ out' = out ∧ c = 0) ∧ (c ≠ 0 → out = []) := by
    rcases h2 with ⟨h, rfl⟩ | ⟨h, hx, rfl⟩ | ⟨h, hx, v, rfl, ho⟩
    · exact ⟨_, 1, [], 0, rfl, World.ownsRow_nil _ _ _ _, .inl ⟨h, rfl⟩, fun _ => rfl⟩
    · exact ⟨_, 2, [], 0, rfl, World.ownsRow_nil _ _ _ _, .inr (.inl ⟨h, hx, rfl⟩), fun _ => rfl⟩
    · exact ⟨v, 0, _, _, rfl, ho, .inr (.inr ⟨h, hx, v, rfl, rfl, rfl, rfl⟩), fun h => absurd rfl h⟩
  have hsame : c2 = c1 ∧ out2 = out1 := by
    obtain ⟨p1, z1⟩ := HP1.out
    obtain ⟨p2, z2⟩ := P2
    rcases p1 with ⟨h, e1⟩ | ⟨h, hx, e1⟩ | ⟨h, hx, v, e1, k1, k2, k3⟩ <;> rcases p2 with ⟨h', e2⟩ | ⟨h', hx', e2⟩ | ⟨h', hx', v', e2, k1', k2', k3'⟩
    all_goals first | omega | skip
    · simp at e1 e2
      rw [z1 (by omega), z2 (by omega)]; exact ⟨by omega, rfl⟩
    · simp at e1 e2
      rw [z1 (by omega), z2 (by omega)]; exact ⟨by omega, rfl⟩
    · obtain ⟨k, hk, hf⟩ := hx
      rw [hx' k hk] at hf; cases hf
    · obtain ⟨k, hk, hf⟩ := hx'
      rw [hx k hk] at hf; cases hf
    · exact ⟨by omega, by rw [← k2, ← k2']⟩
  obtain ⟨rfl, rfl⟩ := hsame
  have hb : Below w.heap.size w w2 := hb1.trans (hb2.mono hb1.size)
  have k1 := conv_drew (OwnB.below O1.out hb2)
  have HO2 : Hid _ := OwnB.below O1.out hb2
  have k2 := conv_drew o2
  clear o2 P2 h2 hb1 hb2 HP1
  go_wp2_with fail
  go_quiet ((go_at_call 36; exact Calls.quiet_of_same (num_calls _ _)))
  go_wp2
  go_ret2
  exact ⟨below_drewN hb _, _, _, rfl, OwnB.below HO2.out (below_drewN (Below.refl _ _) _)⟩

/-- Parse, with what it owns. -/
theorem parse2_calls (a : Option Addr) (p : List UInt8) (cap : Nat) (w : World) (hl : p.length ≤ 9223372036854775807) (hb : BytesAt w a p) :
    Calls Tryz.prog 52 #[.slice a p.length cap] w fun e w' => Below w.heap.size w w' ∧ ((64 < p.length ∧ e = .returned (.tuple #[.slice none 0 0, .int .i64 1])) ∨
      (p.length ≤ 64 ∧ ∃ v, e = .returned (.tuple #[v, .int .i64 0]) ∧ TokRow w' w.heap.size v (parseOf p))) := by
  by_cases h : 64 < p.length
  · have HNL : Hid (∀ k : Int, Calls Tryz.prog 56 #[.slice a p.length cap, .int .i64 k] w fun e w' => e = .returned (.tuple #[.slice none 0 0, .int .i64 1]) ∧ w' = w) := fun k => by
      go_enter Tryz.func56, Tryz.ntmps56
      go_wp2
      go_ret2
      exact ⟨rfl, rfl⟩
    go_enter Tryz.func52, Tryz.ntmps52
    go_wp2_with fail
    refine Calls.mono (HNL.out 0) ?_
    rintro e w1 ⟨rfl, rfl⟩
    go_wp2
    go_ret2
    exact ⟨Below.refl _ _, .inl ⟨h, rfl⟩⟩
  · refine (parse_said a p cap w hl hb).mono fun e w' ⟨h1, h2⟩ => ⟨h1, .inr ?_⟩
    rcases h2 with ⟨h3, _⟩ | h3
    · omega
    · exact h3
set_option maxHeartbeats 1000000 in
theorem parsed2_calls (a : Option Addr) (p : List UInt8) (cap : Nat) (w : World) (hl : p.length ≤ 9223372036854775807) (hb : BytesAt w a p) :
    Calls Tryz.prog 28 #[.slice a p.length cap] w fun e w' => Below w.heap.size w w' ∧ ∃ v ts, e = .returned (.tuple #[v, .bool true]) ∧ TokRow w' w.heap.size v ts := by
  have HB : Hid (BytesAt w a p) := hb
  clear hb
  go_enter Tryz.func28, Tryz.ntmps28
  go_wp2_with fail
  refine (parse2_calls a p cap w hl HB.out).mono ?_
  rintro e w1 ⟨hb1, ⟨hlong, rfl⟩ | ⟨hshort, v, rfl, hrow⟩⟩
  · have HB1 : Hid (Below w.heap.size w w1) := hb1
    clear hb1
    go_wp2_with ((go_at_call 36; go_in))
    go_ret2
    exact ⟨HB1.out, _, [], rfl, World.ownsRow_nil _ _ _ _⟩
  · have HB1 : Hid (Below w.heap.size w w1) := hb1
    have hs1 := hb1.size
    have HTK : Hid (TokRow w1 w.heap.size v (parseOf p)) := hrow
    obtain ⟨to, tc, rfl⟩ := hrow.form
    clear hb1 hrow
    have htl := own_max HTK.out
    go_wp2_with ((go_at_call 36; go_in))
    refine (best_calls a to p (parseOf p) cap tc _ hshort htl (bytesAt_below2 HB.out HB1.out) (TokRow.toks HTK.out)).mono ?_
    rintro e w2 ⟨hb2, rfl⟩
    have HB2 : Hid (Below w.heap.size w w2) := HB1.out.trans (hb2.mono hs1)
    rw [parse_chosen p hshort]
    have HT2 : Hid _ := TokRow.below HTK.out hb2
    clear hb2
    go_wp2
    go_ret2
    exact ⟨HB2.out, _, _, rfl, HT2.out⟩
set_option maxHeartbeats 1000000 in
theorem numbered2_calls (a : Option Addr) (p : List UInt8) (cap : Nat) (k : Int) (w : World) (hl : p.length ≤ 9223372036854775807) (hb : BytesAt w a p) :
    Calls Tryz.prog 30 #[.slice a p.length cap, .int .i64 k] w fun e w' => Below w.heap.size w w' ∧ ∃ v ts, e = .returned (.tuple #[v, .bool true]) ∧ TokRow w' w.heap.size v ts := by
  have HB : Hid (BytesAt w a p) := hb
  clear hb
  go_enter Tryz.func30, Tryz.ntmps30
  go_wp2_with fail
  refine (nth_said a p cap k w hl HB.out).mono ?_
  rintro e w1 ⟨hb1, v, ts, c, rfl, hrow, hok, _⟩
  have HB1 : Hid (Below w.heap.size w w1) := hb1
  have HTK : Hid (TokRow w1 w.heap.size v ts) := hrow
  have HOK : Hid (NumOk p k ts c) := hok
  have htl := own_max hrow
  obtain ⟨to, tc, rfl⟩ := hrow.form
  clear hb1 hrow hok
  go_wp2_with ((go_at_call 36; go_in))
  refine (numberedRef_calls a to p k ts c cap tc _ htl hl (bytesAt_below2 HB.out HB1.out) (TokRow.toks HTK.out) HOK.out).mono ?_
  rintro e w2 ⟨hb2, rfl⟩
  have HB2 : Hid (Below w.heap.size w w2) := HB1.out.trans (hb2.mono HB1.out.size)
  have HT2 : Hid _ := TokRow.below HTK.out hb2
  clear hb2
  go_wp2
  go_ret2
  exact ⟨HB2.out, _, _, rfl, HT2.out⟩
set_option maxHeartbeats 1000000 in
theorem compressed3_calls (a : Option Addr) (data : List UInt8) (cap : Nat) (w : World) (hl : data.length ≤ 9223372036854775807) (hcap : data.length ≤ cap) (hb : BytesAt w a data) :
    Calls Tryz.prog 31 #[.slice a data.length cap] w fun e w' => Below w.heap.size w w' ∧ ∃ v out, e = .returned (.tuple #[v, .bool true]) ∧ OwnB w' w.heap.size v out := by
  by_cases h : 2048 < data.length
  · have HNL : Hid (Calls Tryz.prog 58 #[.slice a data.length cap] w fun e w' => e = .returned (.tuple #[.slice none 0 0, .int .i64 1]) ∧ w' = w) := by
      go_enter Tryz.func58, Tryz.ntmps58
      go_wp2
      go_ret2
      exact ⟨rfl, rfl⟩
    go_enter Tryz.func31, Tryz.ntmps31
    go_wp2_with fail
    refine Calls.mono HNL.out ?_
    rintro e w1 ⟨rfl, rfl⟩
    go_wp2_with ((go_at_call 36; go_in))
    refine (compressedLong_calls a none data cap 0 _ h hl).mono ?_
    rintro e w2 ⟨rfl, rfl⟩
    go_wp2
    go_ret2
    exact ⟨Below.refl _ _, _, [], rfl, World.ownsRow_nil _ _ _ _⟩
  · refine (compressed2_calls parseOf parse_chosen parse_said compress_said a data cap w hl hcap hb).mono fun e w' ⟨h1, v, h2, h3⟩ => ⟨h1, v, _, h2, h3 (by omega)⟩
end Go.Proofs.YtnpnaglgllcpfaaGreat

/- The step of Expand and Cost, and the step of Pack. -/
namespace Go.Proofs.YtnpnaglgllcpfaaGreat
set_option maxRecDepth 100000
open Go.RowKit

/-- A step's record, as it is handed on. -/
abbrev opV (kind A : Int) (s : ByteArray) (ta : Option Addr) (tn tc : Nat) (pa : Option Addr) (pn pc : Nat) : Value := .agg #[.int .i64 kind, .int .i64 A, .string s, .slice ta tn tc, .slice pa pn pc]
abbrev OpBox (w : World) (q : Nat) (kind A : Int) (s : ByteArray) (ta : Option Addr) (tn tc : Nat) (pa : Option Addr) (pn pc : Nat) : Prop := w.heap[q]? = some (.cells #[.int .i64 kind, .int .i64 A, .string s, .slice ta tn tc, .slice pa pn pc] 34 (0, 0))

theorem Moved.news {w w' : World} {o o' p : Nat → Prop} (h : Moved w w' o o') (hp : ∀ k, p k → o' k ∨ w.heap.size ≤ k) : Moved w w' o p :=
  ⟨h.os, h.tape, h.output, h.size, h.heap, fun k hk => by
    rcases hp k hk with h1 | h1
    · exact h.new k h1
    · exact .inr h1⟩
/-- A call that only made memory, and then mine of what it made. -/
theorem moved_mine {w w4 w5 : World} {o o5 : Nat → Prop} {v : Value} {B : Nat} (hb : Below w.heap.size w w4) (hB : w.heap.size ≤ B) (hv : ∀ k, v.ownBlock = some k → B ≤ k) (h : Moved w4 w5 (fun k => o k ∨ v.ownBlock = some k) o5) : Moved w w5 o o5 :=
  ((Moved.below hb o).news (fun k hk => by
    rcases hk with h1 | h1
    · exact .inl h1
    · exact .inr (Nat.le_trans hB (hv k h1)))).trans h

set_option maxHeartbeats 1000000 in
theorem listsE_calls (Q N : Nat) (S : St) (A : Int) (s : ByteArray) (ta : Option Addr) (ts : List Tok) (tc : Nat) (pa : Option Addr) (pn pc : Nat) (W0 w : World) (hI : Inv w Q S N) (hN : N ≤ 100000000000) (hb : Below W0.heap.size W0 w) (ht : ToksAt W0 ta ts) (hts : ts.length ≤ 2000000) :
    Calls Tryz.prog 6 #[.pointer (some ⟨Q, 0, none⟩), opV 2 A s ta ts.length tc pa pn pc] w fun e w' => e = .returned (.bool true) ∧ ∃ S', Inv w' Q S' (N + 1) ∧ Moved w w' S.own S'.own := by
  have HI : Hid (Inv w Q S N) := hI
  have HB : Hid (Below W0.heap.size W0 w) := hb
  have HT : Hid (ToksAt W0 ta ts) := ht
  clear hI hb ht
  go_enter Tryz.func6, Tryz.ntmps6
  go_wp2_with fail
  have hb1 : Below w.heap.size w (w.alloc (.cells #[.int .i64 2, .int .i64 A, .string s, .slice ta ts.length tc, .slice pa pn pc] 34)) := (Below.refl _ _).alloc (Nat.le_refl _) _
  have hbx1 : OpBox (w.alloc (.cells #[.int .i64 2, .int .i64 A, .string s, .slice ta ts.length tc, .slice pa pn pc] 34)) w.heap.size 2 A s ta ts.length tc pa pn pc := heap_alloc_new w _
  have HBX1 : Hid _ := hbx1
  have HB1 : Hid _ := hb1
  have hs1 : (w.alloc (.cells #[.int .i64 2, .int .i64 A, .string s, .slice ta ts.length tc, .slice pa pn pc] 34)).heap.size = w.heap.size + 1 := by simp
  refine (roomyTokens_calls ta ts tc _ hts (HT.out.below (HB.out.trans (hb1.mono HB.out.size)))).mono ?_
  clear hbx1 hb1
  generalize w.alloc (.cells #[.int .i64 2, .int .i64 A, .string s, .slice ta ts.length tc, .slice pa pn pc] 34) = w1 at *
  rintro e w2 ⟨rfl, hb2, hs2, hrm2⟩
  rw [hs1] at hb2 hs2 hrm2 ⊢
  have HBX2 : Hid (OpBox w2 w.heap.size 2 A s ta ts.length tc pa pn pc) := by show _ = _; rw [hb2.block _ (by omega)]; exact HBX1.out
  have HB2 : Hid (Below w.heap.size w w2) := HB1.out.trans (hb2.mono (by omega))
  have HRM2 : Hid (RoomT w2 (w.heap.size + 1) ts) := hrm2
  clear hb2 hrm2
  go_wp2_with fail
  refine (expanded2_calls (some ⟨w.heap.size + 1, 0, none⟩) ts (ts.length + 1) w2 (by omega) HRM2.out.toks).mono ?_
  rintro e w3 ⟨hb3, v, out, rfl, ho3⟩
  have HBX3 : Hid (OpBox w3 w.heap.size 2 A s ta ts.length tc pa pn pc) := by show _ = _; rw [hb3.block _ (by omega)]; exact HBX2.out
  have HB3 : Hid (Below w.heap.size w w3) := HB2.out.trans (hb3.mono (by omega))
  have HRM3 : Hid (RoomT w3 (w.heap.size + 1) ts) := by show _ = _; rw [hb3.block _ (by omega)]; exact HRM2.out
  have HO3 : Hid (OwnB w3 w2.heap.size v out) := ho3
  obtain ⟨vo, vc, rfl⟩ := ho3.form
  obtain ⟨⟨_, _, _, c3, _⟩, _⟩ := five_cell HBX3.out
  have hs3 := hb3.size
  have hkb : w.heap.size < w3.heap.size := by omega
  clear hb3 ho3
  go_wp2_with fail
  refine (keptTokens_calls (w.heap.size + 1) ta ts tc w3 hts HRM3.out (HT.out.below (HB.out.trans (HB3.out.mono HB.out.size)))).mono ?_
  rintro e w4 ⟨rfl, n, rfl⟩
  have hq := HI.out.qlt
  go_wp2_with fail
  refine (mine_calls Q N S vo out vc w2.heap.size (w3.drewN n) (HI.out.below (below_drewN HB3.out n)) (by omega) (OwnB.below HO3.out (below_drewN (Below.refl _ _) n)) (fun k hk ho => by
    have h1 := (World.ownsRow.lt HO3.out k hk).1
    have h2 := HI.out.own_lt ho
    omega)).mono ?_
  rintro e w5 ⟨rfl, S5, hI5, hM5⟩
  have HI5 : Hid _ := hI5
  have HM5 : Hid (Moved w w5 S.own S5.own) := moved_mine (below_drewN HB3.out n) (by omega) (fun k hk => (World.ownsRow.lt HO3.out k hk).1) hM5
  clear hI5 hM5
  go_wp2
  go_ret
  exact ⟨rfl, S5, HI5.out, HM5.out⟩
end Go.Proofs.YtnpnaglgllcpfaaGreat

/- The step of Pack. -/
namespace Go.Proofs.YtnpnaglgllcpfaaGreat
set_option maxRecDepth 100000
open Go.RowKit

/-- The rows that are handed in, and one that is none behind them. -/
def RoomsAt (w : World) (gA : Nat) (ps : List (List Tok)) : Prop := ∃ cur : Array Value, w.heap[gA]? = some (.cells cur 32 (0, 0)) ∧ cur[ps.length]? = some (.slice none 0 0) ∧
  ∀ m, m < ps.length → ∃ g, gA < g ∧ cur[m]? = some (.slice (some ⟨g, 0, none⟩) (ps.getD m []).length ((ps.getD m []).length + 1)) ∧ RoomT w g (ps.getD m [])
theorem RoomsAt.kept {w w' : World} {gA : Nat} {ps : List (List Tok)} (h : RoomsAt w gA ps) (hk : ∀ k, gA ≤ k → k < w.heap.size → w'.heap[k]? = w.heap[k]?) : RoomsAt w' gA ps := by
  obtain ⟨cur, h1, h2, h3⟩ := h
  refine ⟨cur, (hk gA (Nat.le_refl _) (block_lt h1)).trans h1, h2, fun m hm => ?_⟩
  obtain ⟨g, g1, g2, g3⟩ := h3 m hm
  exact ⟨g, g1, g2, (hk g (by omega) (block_lt g3)).trans g3⟩
theorem RoomsAt.pieces {w : World} {gA : Nat} {ps : List (List Tok)} (h : RoomsAt w gA ps) (hl : ∀ m, m < ps.length → (ps.getD m []).length ≤ 2000000) : PiecesAt w (some ⟨gA, 0, none⟩) ps := by
  obtain ⟨cur, h1, h2, h3⟩ := h
  refine .inr ⟨gA, 0, rfl, block_lt h1, fun m hm => ?_⟩
  obtain ⟨g, g1, g2, g3⟩ := h3 m hm
  have := hl m hm
  refine ⟨some ⟨g, 0, none⟩, (ps.getD m []).length + 1, ?_, by omega, g3.toks⟩
  rw [Nat.zero_add, ← g2]
  simp [World.cell?, h1]
theorem infoToks1 : (Tryz.prog.info? 32).map (fun i => (i.zero, i.size, i.bytes)) = some (some (.slice none 0 0), 1, 24) := by kernel_rfl
theorem made_nils (n : Nat) : madeCells (Value.slice none 0 0).cells n = (List.replicate n (Value.slice none 0 0)).toArray := by
  apply Array.ext
  · simp [madeCells]
  · intro i h1 h2
    simp [madeCells, Nat.mod_one, Value.cells]

theorem eql_nil_toks (W : World) : (binOp BinOp.eql 32 (Value.slice none 0 0) (Value.slice none 0 0)).run Tryz.prog W = .ok (.bool true) W := by kernel_rfl

set_option maxHeartbeats 2000000 in
theorem listsP_calls (Q N : Nat) (S : St) (kind A : Int) (s : ByteArray) (ta : Option Addr) (tn tc : Nat) (pa : Option Addr) (ps : List (List Tok)) (pc : Nat) (W0 w : World) (hI : Inv w Q S N) (hN : N ≤ 100000000000) (hb : Below W0.heap.size W0 w) (hkd : kind ≠ 2) (hown : ∀ k, S.own k → W0.heap.size ≤ k) (hp : PiecesAt W0 pa ps) (hps : ps.length ≤ 2000000) (hpl : ∀ m, m < ps.length → (ps.getD m []).length ≤ 2000000) :
    Calls Tryz.prog 6 #[.pointer (some ⟨Q, 0, none⟩), opV kind A s ta tn tc pa ps.length pc] w fun e w' => e = .returned (.bool true) ∧ ∃ S', Inv w' Q S' (N + 1) ∧ Moved w w' S.own S'.own := by
  have HI : Hid (Inv w Q S N) := hI
  have HB : Hid (Below W0.heap.size W0 w) := hb
  have HP : Hid (PiecesAt W0 pa ps) := hp
  have HPL : Hid _ := hpl
  have HOW : Hid (∀ k, S.own k → W0.heap.size ≤ k) := hown
  have hk2 : (kind == 2) = false := by simpa using hkd
  have hW0 := hb.size
  obtain ⟨i0, hii, hz0, hz1, hz2⟩ := info_parts infoToks1
  obtain ⟨Z, hZ⟩ : ∃ Z : List Value, Z = List.replicate (ps.length + 1) (.slice none 0 0) := ⟨_, rfl⟩
  have HZ : Hid _ := hZ
  have hmk : ∀ wx : World, (Instr.makeSlice 27 (.int .i64 ((ps.length : Int) + 1)) (.int .i64 ((ps.length : Int) + 1))).run Tryz.prog wx = .ok (.slice (some ⟨wx.heap.size, 0, none⟩) (ps.length + 1) (ps.length + 1)) (wx.alloc (.cells Z.toArray 32)) := fun wx => by
    have h := run_make (P := Tryz.prog) (w := wx) 27 32 i0 (.slice none 0 0) Tryz.underlying27 hii hz0 .i64 .i64 ((ps.length : Int) + 1) ((ps.length : Int) + 1) (by omega) (by omega) (by rw [hz2]; omega) (by omega)
    rw [hz1, Nat.mul_one, show ((ps.length : Int) + 1).toNat = ps.length + 1 by omega] at h
    rw [hZ, ← made_nils]
    exact h
  clear hI hb hp hZ hpl hown
  go_enter Tryz.func6, Tryz.ntmps6
  go_wp2_with fail
  have hb1 : Below w.heap.size w ((w.alloc (.cells #[.int .i64 kind, .int .i64 A, .string s, .slice ta tn tc, .slice pa ps.length pc] 34)).alloc (.cells Z.toArray 32)) := ((Below.refl _ _).alloc (Nat.le_refl _) _).alloc (by simp) _
  have hbx1 : OpBox ((w.alloc (.cells #[.int .i64 kind, .int .i64 A, .string s, .slice ta tn tc, .slice pa ps.length pc] 34)).alloc (.cells Z.toArray 32)) w.heap.size kind A s ta tn tc pa ps.length pc := by
    show _ = _
    rw [Below.heap_alloc _ _ _ (by simp)]
    exact heap_alloc_new w _
  have hA1 : ((w.alloc (.cells #[.int .i64 kind, .int .i64 A, .string s, .slice ta tn tc, .slice pa ps.length pc] 34)).alloc (.cells Z.toArray 32)).heap[w.heap.size + 1]? = some (.cells Z.toArray 32 (0, 0)) := by
    have := heap_alloc_new (w.alloc (.cells #[.int .i64 kind, .int .i64 A, .string s, .slice ta tn tc, .slice pa ps.length pc] 34)) (.cells Z.toArray 32)
    simpa using this
  have hs1 : ((w.alloc (.cells #[.int .i64 kind, .int .i64 A, .string s, .slice ta tn tc, .slice pa ps.length pc] 34)).alloc (.cells Z.toArray 32)).heap.size = w.heap.size + 2 := by simp
  have HBX1 : Hid _ := hbx1
  have HB1 : Hid _ := hb1
  have HA1 : Hid _ := hA1
  clear hb1 hbx1 hA1 hmk
  generalize (w.alloc (.cells #[.int .i64 kind, .int .i64 A, .string s, .slice ta tn tc, .slice pa ps.length pc] 34)).alloc (.cells Z.toArray 32) = w1 at *
  go_loopg [10] ps.length (fun gh iv wr => ∃ (k : Nat) (vs : List Value), k ≤ ps.length ∧ gh = ps.length - k ∧ iv = .int .i64 k ∧ vs.length = k ∧ w.heap.size + 2 ≤ wr.heap.size ∧ Hid (Below w.heap.size w wr) ∧ Hid (OpBox wr w.heap.size kind A s ta tn tc pa ps.length pc) ∧ Hid (wr.heap[w.heap.size + 1]? = some (.cells (vs ++ List.replicate (ps.length + 1 - k) (Value.slice none 0 0)).toArray 32 (0, 0))) ∧ Hid (∀ m, m < k → ∃ g, w.heap.size + 1 < g ∧ vs[m]? = some (.slice (some ⟨g, 0, none⟩) (ps.getD m []).length ((ps.getD m []).length + 1)) ∧ RoomT wr g (ps.getD m [])))
  case atStart => exact ⟨0, [], by omega, rfl, rfl, rfl, by omega, HB1, HBX1, by show _ = _; rw [HA1.out, HZ.out]; rfl, fun m hm => by omega⟩
  case round =>
    obtain ⟨k, vs, hk, hg, rfl, hvl, hsz, HBW, HBX, HA, HVS⟩ := hrel
    have HG : Hid _ := hg
    clear hg
    obtain ⟨⟨x0, x1, x2, x3, x4⟩, _⟩ := five_cell HBX.out
    by_cases hlt : k < ps.length
    · obtain ⟨b, off, rfl, hbl, hcell⟩ : ∃ b off, pa = some ⟨b, off, none⟩ ∧ b < W0.heap.size ∧ ∀ i, i < ps.length → ∃ ai ci, W0.cell? ⟨b, off + i, none⟩ = some (.slice ai (ps.getD i []).length ci) ∧ (ps.getD i []).length ≤ 9223372036854775807 ∧ ToksAt W0 ai (ps.getD i []) := by
        rcases HP.out with h | h
        · rw [h] at hlt; simp at hlt
        · exact h
      obtain ⟨ai, ci, c0, _, htk⟩ := hcell k hlt
      have HBWW : Hid (Below W0.heap.size W0 wr) := HB.out.trans (HBW.out.mono HB.out.size)
      have c1 : wr.cell? ⟨b, off + k, none⟩ = some (.slice ai (ps.getD k []).length ci) := by rw [HBWW.out.cell (p := ⟨b, _, none⟩) hbl]; exact c0
      have HRT : Hid _ := roomyTokens_calls ai (ps.getD k []) ci wr (HPL.out k hlt) (htk.below HBWW.out)
      have hkI : 0 ≤ (k : Int) ∧ (k : Int) < (ps.length : Int) := by omega
      have hkI2 : 0 ≤ (k : Int) ∧ (k : Int) < (ps.length : Int) + 1 := by omega
      have HVL : Hid (vs.length = k) := hvl
      clear hcell c0 htk hvl x0 x1 x2 x3
      generalize hnT : (ps.getD k []).length = nT at *
      have HNT : Hid ((ps.getD k []).length = nT) := hnT
      clear hnT
      go_wp2_with fail
      refine Calls.mono HRT.out ?_
      rintro e w4 ⟨rfl, hb4, hs4, hrm4⟩
      have hA4 : w4.heap[w.heap.size + 1]? = _ := (hb4.block _ (by omega)).trans HA.out
      have hcA : w4.cell? ⟨w.heap.size + 1, k, none⟩ = some (.slice none 0 0) := by
        have hv := HVL.out
        have e : (vs ++ List.replicate (ps.length + 1 - k) (Value.slice none 0 0))[k]? = some (Value.slice none 0 0) := by
          rw [List.getElem?_append_right (by omega), List.getElem?_replicate, if_pos (by omega)]
        rw [← e]
        simp [World.cell?, hA4]
      have hfA : w4.frozen? ⟨w.heap.size + 1, k, none⟩ = false := by simp [World.frozen?, hA4]
      have hszA : w.heap.size + 1 < w4.heap.size := by omega
      have HA4 : Hid _ := hA4
      have HB4 : Hid (Below wr.heap.size wr w4) := hb4
      have HRM4 : Hid (RoomT w4 wr.heap.size (ps.getD k [])) := hrm4
      clear hA4 hb4 hrm4 HRT c1 x4
      go_wp2
      go_roundg (ps.length - (k + 1))
      case measure => have := HG.out; omega
      case rel =>
        refine ⟨k + 1, vs ++ [.slice (some ⟨wr.heap.size, 0, none⟩) nT (nT + 1)], by omega, rfl, by go_num, by simp [HVL.out], by simp; omega, ?_, ?_, ?_, ?_⟩
        · exact (HBW.out.trans (HB4.out.mono HBW.out.size)).setCell (by show w.heap.size ≤ w.heap.size + 1; omega) _
        · show _ = _
          rw [set_other _ (by omega), HB4.out.block _ (by omega)]
          exact HBX.out
        · show _ = _
          rw [set_block HA4.out]
          congr 2
          have hv := HVL.out
          have e : ps.length + 1 - k = (ps.length + 1 - (k + 1)) + 1 := by omega
          rw [e, List.replicate_succ]
          simp [hv]
        · intro m hm
          have hv := HVL.out
          rcases Nat.lt_or_ge m k with h | h
          · obtain ⟨g, g1, g2, g3⟩ := HVS.out m h
            refine ⟨g, g1, by rw [List.getElem?_append_left (by omega)]; exact g2, ?_⟩
            show _ = _
            rw [set_other _ (by omega), HB4.out.block _ (block_lt g3)]
            exact g3
          · obtain rfl : m = k := by omega
            refine ⟨wr.heap.size, by omega, by rw [HNT.out, List.getElem?_append_right (by omega)]; simp [hv], ?_⟩
            show _ = _
            rw [set_other _ (by omega)]
            exact HRM4.out
    · have hke : k = ps.length := by omega
      subst hke
      have hlt' : ¬ (ps.length : Int) < (ps.length : Int) := by omega
      have HRS : Hid (RoomsAt wr (w.heap.size + 1) ps) := by
        refine ⟨_, HA.out, ?_, fun m hm => ?_⟩
        · rw [List.getElem?_toArray, List.getElem?_append_right (by omega), List.getElem?_replicate, if_pos (by omega)]
        · obtain ⟨g, g1, g2, g3⟩ := HVS.out m hm
          refine ⟨g, g1, ?_, g3⟩
          rw [List.getElem?_toArray, List.getElem?_append_left (by omega)]
          exact g2
      clear hlt hlt' HA HVS HG hvl x0 x1 x2 x3
      have hi3 : (0 : Int) ≤ (ps.length : Int) ∧ (ps.length : Int) ≤ (ps.length : Int) + 1 := by omega
      generalize wr = w2 at *
      go_wp2_with fail
      refine (packed2_calls (some ⟨w.heap.size + 1, 0, none⟩) ps (ps.length + 1) w2 (by omega) (HRS.out.pieces HPL.out)).mono ?_
      rintro e w3 ⟨hb3, v, out, rfl, ho3⟩
      have HB3 : Hid (Below w2.heap.size w2 w3) := hb3
      have HO3 : Hid (OwnB w3 w2.heap.size v out) := ho3
      have HW3 : Hid (Below w.heap.size w w3) := HBW.out.trans (hb3.mono HBW.out.size)
      obtain ⟨vo, vc, rfl⟩ := ho3.form
      have hq := HI.out.qlt
      clear hb3 ho3 x4
      go_wp2_with fail
      refine (mine_calls Q N S vo out vc w2.heap.size w3 (HI.out.below HW3.out) (by omega) HO3.out (fun k hk ho => by
        have h1 := (World.ownsRow.lt HO3.out k hk).1
        have h2 := HI.out.own_lt ho
        omega)).mono ?_
      rintro e w5 ⟨rfl, S5, hI5, hM5⟩
      have HI5 : Hid (Inv w5 Q S5 (N + 1)) := hI5
      have HM5 : Hid (Moved w w5 S.own S5.own) := moved_mine HW3.out (by omega) (fun k hk => (World.ownsRow.lt HO3.out k hk).1) hM5
      have hkp : ∀ k, w.heap.size ≤ k → k < w2.heap.size → w5.heap[k]? = w2.heap[k]? := fun k h1 h2 => by
        have h3 := HB3.out.size
        rw [hM5.heap k (by omega) (by
          rintro (h | h)
          · have := HI.out.own_lt h; omega
          · have := (World.ownsRow.lt HO3.out k h).1; omega)]
        exact HB3.out.block k h2
      have HR5 : Hid (RoomsAt w5 (w.heap.size + 1) ps) := HRS.out.kept (fun k h1 h2 => hkp k (by omega) h2)
      have HBX5 : Hid (OpBox w5 w.heap.size kind A s ta tn tc pa ps.length pc) := (hkp w.heap.size (Nat.le_refl _) (by omega)).trans HBX.out
      have HW5 : Hid (Below W0.heap.size W0 w5) := (HM5.out.low HB.out hW0 HOW.out).1
      have hs5 : w.heap.size + 2 ≤ w5.heap.size := by have := hM5.size; have := HB3.out.size; omega
      clear hI5 hM5 hkp HRS HBX HO3 HB3 HBW hsz
      obtain ⟨⟨_, _, _, _, x4⟩, _⟩ := five_cell HBX5.out
      obtain ⟨cur, d1, d2, d3⟩ := HR5.out
      have cN : w5.cell? ⟨w.heap.size + 1, ps.length, none⟩ = some (.slice none 0 0) := by simp [World.cell?, d1, d2]
      have HD1 : Hid _ := d1
      have HD3 : Hid _ := d3
      clear d1 d2 d3
      go_wp2_with fail
      go_loopw [12, 13] (fun ok i wr => ∃ (k : Nat), k ≤ ps.length ∧ ok = .bool true ∧ i = .int .i64 k ∧ ∃ n, wr = w5.drewN n) (fun _ i _ => ps.length - (intOf i).toNat)
      case atStart => exact ⟨0, Nat.zero_le _, rfl, rfl, 0, rfl⟩
      case round =>
        obtain ⟨k, hk, rfl, rfl, nd, rfl⟩ := hrel
        by_cases hlt : k < ps.length
        · obtain ⟨b, off, rfl, hbl, hcell⟩ : ∃ b off, pa = some ⟨b, off, none⟩ ∧ b < W0.heap.size ∧ ∀ i, i < ps.length → ∃ ai ci, W0.cell? ⟨b, off + i, none⟩ = some (.slice ai (ps.getD i []).length ci) ∧ (ps.getD i []).length ≤ 9223372036854775807 ∧ ToksAt W0 ai (ps.getD i []) := by
            rcases HP.out with h | h
            · rw [h] at hlt; simp at hlt
            · exact h
          obtain ⟨ai, ci, c0, _, htk⟩ := hcell k hlt
          have c1 : w5.cell? ⟨b, off + k, none⟩ = some (.slice ai (ps.getD k []).length ci) := by rw [HW5.out.cell (p := ⟨b, _, none⟩) hbl]; exact c0
          obtain ⟨g, g1, g2, g3⟩ := HD3.out k hlt
          have c2 : w5.cell? ⟨w.heap.size + 1, k, none⟩ = some (.slice (some ⟨g, 0, none⟩) (ps.getD k []).length ((ps.getD k []).length + 1)) := by
            rw [← g2]
            have hd := HD1.out
            simp [World.cell?, hd]
          have hb5 : b < w5.heap.size := by have := HW5.out.size; omega
          have HKT : Hid (∀ n p, Calls Tryz.prog 13 #[.slice (some ⟨g, 0, none⟩) (ps.getD k []).length ((ps.getD k []).length + 1), .slice ai (ps.getD k []).length ci] ((w5.drewN n).drewN p) fun e w' => e = .returned (.bool true) ∧ ∃ q, w' = ((w5.drewN n).drewN p).drewN q) := fun n p =>
            keptTokens_calls g ai (ps.getD k []) ci ((w5.drewN n).drewN p) (HPL.out k hlt) g3 (((htk.below HW5.out).drewN n).drewN p)
          have hkI : 0 ≤ (k : Int) ∧ (k : Int) < (ps.length : Int) := by omega
          have hkI2 : 0 ≤ (k : Int) ∧ (k : Int) < (ps.length : Int) + 1 := by omega
          clear hcell c0 htk g2 g3 cN
          generalize (ps.getD k []).length = nT at *
          have e0 : ((nT : Int) == (nT : Int)) = true := by simp
          go_wp2_with fail
          go_quiet (fail)
          rw [World.drewN_drewN]
          have HKT' : Hid _ := HKT.out (nd + nq)
          have c1' : (w5.drewN (nd + nq)).cell? _ = _ := c1
          have c2' : (w5.drewN (nd + nq)).cell? _ = _ := c2
          have x4' : (w5.drewN (nd + nq)).cell? _ = _ := x4
          have hb5' : b < (w5.drewN (nd + nq)).heap.size := hb5
          have hs5' : w.heap.size + 2 ≤ (w5.drewN (nd + nq)).heap.size := hs5
          generalize hw6 : w5.drewN (nd + nq) = w6 at *
          have HW6 : Hid (w5.drewN (nd + nq) = w6) := hw6
          clear hw6 HKT
          go_wp2_with fail
          go_quiet ((go_at_call 13; exact Calls.quiet_of (HKT'.out _)))
          go_wp2
          go_roundw
          case rel => exact ⟨k + 1, by omega, rfl, by go_num, _, by rw [← HW6.out, World.drewN_drewN]⟩
          case measure => simp [intOf]; omega
        · have hke : k = ps.length := by omega
          subst hke
          have hlt' : ¬ (ps.length : Int) < (ps.length : Int) := by omega
          have hiN : 0 ≤ (ps.length : Int) ∧ (ps.length : Int) < (ps.length : Int) + 1 := by omega
          have heq := eql_nil_toks (w5.drewN nd)
          go_wp2
          go_ret
          exact ⟨rfl, S5, HI5.out.below (below_drewN (Below.refl _ _) nd), HM5.out.trans (Moved.below (below_drewN (Below.refl _ _) nd) _)⟩
end Go.Proofs.YtnpnaglgllcpfaaGreat

/- What Ways answers. -/
namespace Go.Proofs.YtnpnaglgllcpfaaGreat
set_option maxRecDepth 100000
open Go.RowKit

set_option maxHeartbeats 1000000 in
theorem bestWays_calls (a : Option Addr) (p : List UInt8) (cap : Nat) (w : World) (hp : p.length ≤ 64) (hb : BytesAt w a p) :
    Calls Tryz.prog 85 #[.slice a p.length cap] w fun e w' => Below w.heap.size w w' ∧ e = .returned (.tuple #[.int .i64 (toC p 0), .int .i64 (capW p 0)]) := by
  have HB : Hid (BytesAt w a p) := hb
  clear hb
  go_enter Tryz.func85, Tryz.ntmps85
  go_wp2_with fail
  refine (rests_calls a p cap w hp HB.out).mono ?_
  rintro e w1 ⟨hb1, g, gc, rfl, ha⟩
  obtain ⟨c0, c1, _⟩ := ha.tab 0 (Nat.le_refl _) (by omega)
  have HB1 : Hid _ := hb1
  simp only [Nat.zero_mul, Nat.zero_add] at c0 c1
  have hiI : 0 ≤ (0 : Int) ∧ (0 : Int) < ((p.length + 1 : Nat) : Int) := by omega
  clear hb1 ha
  go_wp2_with fail
  go_quiet (fail)
  go_wp2
  go_ret2
  exact ⟨below_drewN HB1.out _, rfl⟩
set_option maxHeartbeats 1000000 in
theorem ways_said : WaysSaid := by
  intro a p cap w hl hb
  have HB : Hid (BytesAt w a p) := hb
  clear hb
  go_enter Tryz.func54, Tryz.ntmps54
  by_cases h64 : 64 < p.length
  · have h1 : (64 : Int) < (p.length : Int) := by omega
    go_wp2
    go_ret3
    exact ⟨Below.refl _ _, .inl ⟨h64, rfl⟩⟩
  · have h1 : ¬ (64 : Int) < (p.length : Int) := by omega
    go_wp2_with fail
    refine (bestWays_calls a p cap w (by omega) HB.out).mono ?_
    rintro e w1 ⟨hb1, rfl⟩
    have HB1 : Hid _ := hb1
    clear hb1
    have HL : Hid (cap9 (leastW p) = (capW p 0 : Int)) := leastW_is p
    generalize capW p 0 = W at *
    go_wp2
    go_ret3
    exact ⟨HB1.out, .inr ⟨by omega, by rw [HL.out]; rfl⟩⟩
end Go.Proofs.YtnpnaglgllcpfaaGreat
