/-
  How many best lists go ahead of one: pressref.Rank, pressref.Numbered.
-/
import Derived.Test.YtnpnaglgllcpfaaAhd
namespace Go.Proofs.Ytnpnaglgllcpfaa
set_option maxRecDepth 100000
open Go.RowKit
open Dp

set_option maxHeartbeats 1000000 in
theorem rank_calls (a b : Option Addr) (p : List UInt8) (ts : List Tok) (cap cb : Nat) (w : World) (hp : p.length ≤ 64) (hl : ts.length ≤ 64) (hb : BytesAt w a p) (ht : ToksAt w b ts) (hpath : tpath p 0 ts) :
    Calls Try.prog 86 #[.slice a p.length cap, .slice b ts.length cb] w fun e w' => Below w.heap.size w w' ∧ e = .returned (.int .i64 (rankN p ts)) := by
  have HB : Hid (BytesAt w a p) := hb
  have HT : Hid (ToksAt w b ts) := ht
  have HP : Hid (tpath p 0 ts) := hpath
  clear hb ht hpath
  go_enter Try.func86, Try.ntmps86
  go_wp2_with fail
  refine (to_calls a p cap w hp HB.out).mono ?_
  rintro e w1 ⟨hb1, q, gc, gw, cc, cw, cs, ws, hq, hgc, hgw, rfl, hk1, hr1⟩
  have HB1 : Hid (Below w.heap.size w w1) := hb1
  have HK1 : Hid (KnownAt w1 q gc gw cc cw cs ws) := hk1
  have HR1 : Hid (Rep p.length cs ws (fun j => (net p).to j)) := hr1
  have hs1 := hb1.size
  clear hb1 hk1 hr1
  go_wp2_with fail
  go_loopg [6, 7, 8] ts.length (fun g nv av iv wr => ∃ (k acc at' : Nat), k ≤ ts.length ∧ g = ts.length - k ∧ iv = .int .i64 k ∧ nv = .int .i64 acc ∧ av = .int .i64 at' ∧ acc ≤ 1000000000 ∧ at' ≤ p.length ∧ Hid (tpath p at' (ts.drop k)) ∧ Hid (rankN p ts = rankGo p at' acc (ts.drop k)) ∧ Hid (Below w1.heap.size w1 wr))
  case atStart => exact ⟨0, 0, 0, by omega, rfl, rfl, rfl, rfl, by omega, by omega, HP, rfl, Below.refl _ _⟩
  case round =>
    obtain ⟨k, acc, at', hk, hg, rfl, rfl, rfl, hacc, hat, HPK, HRK, HBW⟩ := hrel
    have HG : Hid _ := hg
    clear hg
    by_cases hlt : k < ts.length
    · have hdr : ts.drop k = ts[k] :: ts.drop (k + 1) := List.drop_eq_getElem_cons hlt
      have hp1 := HPK.out
      have hr2 := HRK.out
      rw [hdr] at hp1 hr2
      obtain ⟨hi, hmem, hp2⟩ := hp1
      have hol := out_len p at' hi _ hmem
      obtain ⟨bb, off, ha, hbl, hcell⟩ : ∃ bb off, b = some ⟨bb, off, none⟩ ∧ bb < wr.heap.size ∧ ∀ i (hi : i < ts.length),
          wr.cell? ⟨bb, off + i * 3, none⟩ = some (.int .i64 ts[i].len) ∧ wr.cell? ⟨bb, off + i * 3 + 1, none⟩ = some (.int .i64 ts[i].dist) ∧ wr.cell? ⟨bb, off + i * 3 + 2, none⟩ = some (.int .i64 ts[i].byte) := by
        rcases HT.out.below (HB1.out.trans (HBW.out.mono HB1.out.size)) with h | h
        · rw [h] at hlt; simp at hlt
        · exact h
      subst ha
      obtain ⟨c0, c1, c2⟩ := hcell k hlt
      generalize ts[k] = t at *
      obtain ⟨tl, td, tb⟩ := t
      simp only at c0 c1 c2 hol hp2
      have HP2 : Hid (tpath p (at' + tl.toNat) (ts.drop (k + 1))) := hp2
      have HR2 : Hid (rankN p ts = rankGo p (at' + tl.toNat) (min (acc + aheadN p at' ⟨tl, td, tb⟩) 1000000000) (ts.drop (k + 1))) := hr2
      have hah := aheadN_le p at' ⟨tl, td, tb⟩ hp hat
      have HBW0 : Hid (Below w.heap.size w wr) := HB1.out.trans (HBW.out.mono HB1.out.size)
      have HKW : Hid (KnownAt wr q gc gw cc cw cs ws) := HK1.out.below HBW.out
      clear hcell hdr hmem hp2 hr2
      go_wp2_with fail
      refine (ahead_calls a p cap q gc gw cc cw cs ws at' tl td tb wr hp (bytesAt_below2 HB.out HBW0.out) HKW.out HR1.out hi).mono ?_
      rintro e w3 ⟨hb3, rfl⟩
      have HB3 : Hid (Below w1.heap.size w1 w3) := HBW.out.trans (hb3.mono HBW.out.size)
      have d0 := cell_kept hb3 c0
      clear hb3 c1 c2
      generalize hAH : aheadN p at' ⟨tl, td, tb⟩ = A at *
      go_wp2_with fail
      refine (capped_calls _ _).mono ?_
      rintro e w4 ⟨rfl, rfl⟩
      have hmin : cap9 ((acc : Int) + (A : Int)) = ((min (acc + A) 1000000000 : Nat) : Int) := by unfold cap9; omega
      rw [hmin]
      have hml : min (acc + A) 1000000000 ≤ 1000000000 := by omega
      generalize min (acc + A) 1000000000 = M at *
      obtain ⟨L, hL⟩ : ∃ L : Nat, tl = (L : Int) := ⟨tl.toNat, by omega⟩
      subst hL
      have HLN : Hid ((L : Int).toNat = L) := Int.toNat_natCast L
      rw [HLN.out] at HP2 HR2 hol
      clear hmin
      go_wp2
      go_roundg (ts.length - (k + 1))
      case measure => have := HG.out; omega
      case rel => exact ⟨k + 1, M, at' + L, by omega, rfl, by go_num, rfl, by go_num, hml, by omega, HP2, HR2, HB3⟩
    · have hke : k = ts.length := by omega
      have HZ : Hid (rankN p ts = acc) := by
        show _ = _
        rw [HRK.out, hke, List.drop_length]; rfl
      go_wp2
      go_ret
      exact ⟨HB1.out.trans (HBW.out.mono HB1.out.size), by rw [HZ.out]; rfl⟩
set_option maxHeartbeats 1000000 in
theorem numberedRef_calls (a b : Option Addr) (p : List UInt8) (k : Int) (ts : List Tok) (e : Int) (cap cb : Nat) (w : World) (hl : ts.length ≤ 9223372036854775807) (hpl : p.length ≤ 9223372036854775807) (hb : BytesAt w a p) (ht : ToksAt w b ts) (hok : NumOk p k ts e) :
    Calls Try.prog 53 #[.slice a p.length cap, .int .i64 k, .slice b ts.length cb, .int .i64 e] w fun r w' => Below w.heap.size w w' ∧ r = .returned (.bool true) := by
  have HB : Hid (BytesAt w a p) := hb
  have HT : Hid (ToksAt w b ts) := ht
  clear hb ht
  rcases hok with ⟨h1, rfl, rfl⟩ | ⟨h1, h2, rfl, rfl⟩ | ⟨h1, h2, h3, rfl, h4, h5⟩
  · go_enter Try.func53, Try.ntmps53
    go_wp2
    go_ret
    exact ⟨Below.refl _ _, rfl⟩
  · go_enter Try.func53, Try.ntmps53
    go_wp2_with fail
    refine (least_calls a p cap _ h1 HB.out).mono ?_
    rintro e w1 ⟨hb1, rfl⟩
    have HB1 : Hid (Below w.heap.size w w1) := hb1
    generalize cap9 (leastW p : Int) = U at *
    generalize leastC p = C at *
    clear hb1
    by_cases hk0 : k < 0
    · clear h2
      go_wp2
      go_ret
      exact ⟨HB1.out, rfl⟩
    · have hk1 : U ≤ k := by omega
      clear h2
      go_wp2
      go_ret
      exact ⟨HB1.out, rfl⟩
  · have h4' := (bestB_iff p ts).1 h4
    have htl : ts.length ≤ 64 := by have := Tok.expand_many ts [] p h4'.1; simp at this; omega
    have HPT : Hid (tpath p 0 ts) := (expand_tpath p h1 ts 0 (by omega)).1 (by simpa using h4'.1)
    have H4 : Hid (bestB p ts = true) := h4
    have H5 : Hid ((rankN p ts : Int) = k) := h5
    clear h4 h4' h5
    go_enter Try.func53, Try.ntmps53
    go_wp2_with fail
    refine (least_calls a p cap _ h1 HB.out).mono ?_
    rintro e w1 ⟨hb1, rfl⟩
    have HB1 : Hid (Below w.heap.size w w1) := hb1
    have hs1 := hb1.size
    generalize cap9 (leastW p : Int) = U at *
    generalize leastC p = C at *
    clear hb1
    have hk0 : ¬ k < 0 := by omega
    have hk1 : ¬ U ≤ k := by omega
    go_wp2_with fail
    refine (best_calls a b p ts cap cb _ h1 hl (bytesAt_below2 HB.out HB1.out) (HT.out.below HB1.out)).mono ?_
    rintro e w2 ⟨hb2, rfl⟩
    have HB2 : Hid (Below w.heap.size w w2) := HB1.out.trans (hb2.mono hs1)
    rw [H4.out]
    clear hb2
    go_wp2_with fail
    refine (rank_calls a b p ts cap cb _ h1 htl (bytesAt_below2 HB.out HB2.out) (HT.out.below HB2.out) HPT.out).mono ?_
    rintro e w3 ⟨hb3, rfl⟩
    have HB3 : Hid (Below w.heap.size w w3) := HB2.out.trans (hb3.mono HB2.out.size)
    rw [H5.out]
    clear hb3
    go_wp2
    go_ret
    exact ⟨HB3.out, rfl⟩
end Go.Proofs.Ytnpnaglgllcpfaa
