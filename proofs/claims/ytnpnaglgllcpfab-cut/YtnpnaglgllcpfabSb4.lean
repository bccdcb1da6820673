/-
  What the program's reader of tokens does to memory: a frame's tokens.
-/
import Derived.Test.YtnpnaglgllcpfabSb3
namespace Go.Proofs.Ytnpnaglgllcpfab
set_option maxRecDepth 100000
open Go.RowKit

/-- How Read of tokens ends. -/
def ToksRAns (w w' : World) (q : Nat) (a : Option Addr) (l : List UInt8) (cap n0 n : Nat) (r : Ending) : Prop :=
  OneKept w w' q ∧ ((∃ c m, rToks n n 0 ((bitsIn l).drop n0) = .error c ∧ c ≠ 0 ∧ m ≤ (bitsIn l).length ∧ r = .returned (.tuple #[.slice none 0 0, .int .i64 c]) ∧ RdrAt w' q a l cap m) ∨
    ∃ acc m v out, rToks n n 0 ((bitsIn l).drop n0) = .ok (acc, (bitsIn l).drop m) ∧ n0 ≤ m ∧ m ≤ (bitsIn l).length ∧ r = .returned (.tuple #[v, .int .i64 0]) ∧ TokRow w' w.heap.size v acc ∧ Tok.expand [] acc = some out ∧ out.length = n ∧ acc.length ≤ 65 ∧ RdrAt w' q a l cap m)

theorem rdr_append {w w2 w3 : World} {q : Nat} {a : Option Addr} {l : List UInt8} {cap n m : Nat} {v : Value} {acc : List Tok} {o1 o2 : Obj} (h0 : RdrAt w q a l cap n) (hrow : TokRow w2 w.heap.size v acc) (hk : OneKept w w2 q) (h2 : RdrAt w2 q a l cap m) (hg : ((w2.alloc o1).alloc o2).grownBy w3 v.ownBlock) :
    OneKept w w3 q ∧ RdrAt w3 q a l cap m ∧ w3.heap[w2.heap.size]? = some o1 ∧ w2.heap.size < w3.heap.size := by
  have hz : ((w2.alloc o1).alloc o2).heap.size = w2.heap.size + 2 := by simp
  have hs2 := hk.size
  have hq := h0.lt
  have hsz : w2.heap.size + 2 ≤ w3.heap.size := by have := hg.size; rw [hz] at this; exact this
  have hown := fun k hk' => World.ownsRow.lt hrow k hk'
  have hblk : ∀ k, k < w2.heap.size → v.ownBlock ≠ some k → w3.heap[k]? = w2.heap[k]? := fun k h1 h2 => by
    rw [hg.block k (by rw [hz]; omega) (fun e => h2 e.symm), Below.heap_alloc (w2.alloc o1) o2 k (by simp; omega), Below.heap_alloc w2 o1 k h1]
  have hkk : OneKept w w3 q := by
    refine ⟨hg.os.trans hk.os, hg.tape.trans hk.tape, hg.output.trans hk.output, by omega, fun k h1 h2 => ?_⟩
    rw [hblk k (by omega) (fun e => by have := (hown k e).1; omega)]
    exact hk.heap k h1 h2
  refine ⟨hkk, h0.kept hkk ?_, ?_, by omega⟩
  · rw [hblk q (by omega) (fun e => by have := (hown q e).1; omega)]
    exact h2.block
  · rw [hg.block _ (by rw [hz]; omega) (fun e => by have := (hown _ e.symm).2; omega), Below.heap_alloc (w2.alloc o1) o2 _ (by simp)]
    exact heap_alloc_new w2 o1

set_option maxHeartbeats 2000000 in
theorem readToks_calls (q : Nat) (a : Option Addr) (l : List UInt8) (cap n0 n : Nat) (w : World) (h : RdrAt w q a l cap n0) (hl : l.length ≤ 4096) (hn0 : n0 ≤ (bitsIn l).length) (h64 : n ≤ 64) :
    Calls Try.prog 83 #[.pointer (some ⟨q, 0, none⟩), .int .i64 n] w fun r w' => ToksRAns w w' q a l cap n0 n r := by
  have HR0 : Hid (RdrAt w q a l cap n0) := h
  have hqw := h.lt
  obtain ⟨it, hti, htz0, htz1, htz2⟩ := info_parts infoTok
  clear h
  go_enter Try.func83, Try.ntmps83
  go_wp2_with fail
  go_loopg [6, 7] (n + 1) (fun g v md wr => ∃ (made : Nat) (acc : List Tok) (m : Nat) (out : List UInt8), md = .int .i64 made ∧ g = n + 1 - made ∧ made ≤ n ∧ acc.length ≤ made ∧ n0 ≤ m ∧ m ≤ (bitsIn l).length ∧ out.length = made ∧ Hid (TokRow wr w.heap.size v acc) ∧ Hid (OneKept w wr q) ∧ Hid (RdrAt wr q a l cap m) ∧ Hid (Tok.expand [] acc = some out) ∧ Hid (rToks n n 0 ((bitsIn l).drop n0) = pre acc (rToks n (n - acc.length) made ((bitsIn l).drop m))))
  case atStart =>
    refine ⟨0, [], n0, [], rfl, rfl, by omega, by simp, Nat.le_refl _, hn0, rfl, World.ownsRow_nil _ _ _ _, OneKept.refl _ _, HR0, rfl, ?_⟩
    show _ = _
    rw [pre_nil]; rfl
  case round =>
    obtain ⟨made, acc, m, out, rfl, hg, hmn, ham, hnm, hml, hol, HROW, HK, HRD, HEX, HEQ⟩ := hrel
    obtain ⟨ao, cp, rfl⟩ := HROW.out.form
    have hsz := HK.out.size
    have HG : Hid (gk = n + 1 - made) := hg
    have HOL : Hid (out.length = made) := hol
    clear hg hol
    by_cases hlt : made < n
    · have hsub : (n : Int) - (made : Int) = ((n - made : Nat) : Int) := by omega
      have HSUB : Hid _ := hsub
      clear hsub
      go_wp2_with fail
      rw [HSUB.out]
      refine (readOne_calls q a l cap m made (n - made) _ _ HRD.out hl hml rfl).mono ?_
      rintro r w2 ⟨hk2, hans⟩
      have hs2 := hk2.size
      have HROW2 : Hid (TokRow w2 w.heap.size (.slice ao acc.length cp) acc) := TokRow.kept HROW.out hk2 hqw
      have HK2 : Hid (OneKept w w2 q) := HK.out.trans hk2
      rcases hans with ⟨c, m', hrt, hc, hm', rfl, hr2⟩ | ⟨t, m', hrt, hmm, hm', rfl, hr2⟩
      · have HR2 : Hid (RdrAt w2 q a l cap m') := hr2
        have HC : Hid (c ≠ 0) := hc
        have hcb : (c != 0) = true := by simpa using hc
        have HER : Hid (rToks n n 0 ((bitsIn l).drop n0) = .error c) := by
          show _ = _
          rw [HEQ.out, show n - acc.length = (n - acc.length - 1) + 1 by omega]
          exact rToks_error acc hlt hrt
        clear hr2 hc hrt hk2
        go_wp2
        go_ret2
        exact ⟨HK2.out.alloc _, .inl ⟨c, m', HER.out, HC.out, hm', rfl, HR2.out.below ((Below.refl _ _).alloc (Nat.le_refl _) _)⟩⟩
      · obtain ⟨hexp2, hsl, ht1, ht2', heq2⟩ := fr_step_ok hlt h64 ham HEX.out HOL.out HEQ.out hrt
        have HR2 : Hid (RdrAt w2 q a l cap m') := hr2
        have HEX2 : Hid (Tok.expand [] (acc ++ [t]) = some (Tok.step out t)) := hexp2
        have HSL : Hid (((Tok.step out t).length : Int) = made + t.len) := hsl
        have HEQ2 : Hid _ := heq2
        clear hr2 hk2 hrt hexp2 hsl heq2
        obtain ⟨tl, td, tb⟩ := t
        simp only at ht1 ht2'
        go_wp2_with (at_builtin; refine wpList_append_own _ rfl _ _ 34 rfl w.heap.size 60 it (.agg #[.int .i64 0, .int .i64 0, .int .i64 0]) 3 24 Try.underlying34 hti htz0 htz1 htz2 rfl (by decide) _ _ _ rfl ((TokRow.alloc HROW2.out _).alloc _) ⟨w2.heap.size + 1, 0, none⟩ 1 1 [.int .i64 tl, .int .i64 td, .int .i64 tb] rfl rfl ?b1 ?b2 ?b3 ?b4 ?b5 ?_)
        case b1 => intro j u hj; exact cell_new3' _ _ (by simp) _ _ _ _ j u hj
        case b2 => intro u hu; simp at hu; rcases hu with rfl | rfl | rfl <;> rfl
        case b3 => unfold maxLen; omega
        case b4 => omega
        case b5 => first | omega | (simp; omega)
        intro v' w3 hown' hgrow _
        obtain ⟨hk3, hr3, hx3, hz3⟩ := rdr_append HR0.out HROW2.out HK2.out HR2.out hgrow
        have HK3 : Hid (OneKept w w3 q) := hk3
        have HR3 : Hid (RdrAt w3 q a l cap m') := hr3
        have HO3 : Hid (TokRow w3 w.heap.size v' (acc ++ [⟨tl, td, tb⟩])) := by
          show w3.ownsRow _ _ _ _ _ _
          rw [cellsT_snoc, List.length_append]
          exact hown'
        obtain ⟨⟨b0, b1, b2⟩, _⟩ := trio_cell hx3
        clear hown' hgrow hk3 hr3 hx3
        go_wp2
        obtain ⟨k, hkk⟩ : ∃ k : Nat, (made : Int) + tl = (k : Int) := ⟨made + tl.toNat, by omega⟩
        have hk2 : k = made + tl.toNat := by omega
        rw [hkk]
        go_roundg (n + 1 - k)
        case measure => have := HG.out; omega
        case rel =>
          refine ⟨k, acc ++ [⟨tl, td, tb⟩], m', Tok.step out ⟨tl, td, tb⟩, rfl, rfl, by omega, by simp; omega, by omega, hm', ?_, HO3, HK3, HR3, HEX2, ?_⟩
          · have := HSL.out
            omega
          · show _ = _
            rw [hk2]; exact HEQ2.out
    · have hmade : made = n := by omega
      have HM : Hid (made = n) := hmade
      have HTK : Hid (rToks n n 0 ((bitsIn l).drop n0) = .ok (acc, (bitsIn l).drop m)) := by show _ = _; rw [HEQ.out]; exact rToks_done acc (by omega)
      clear hmade
      go_wp2
      go_ret2
      exact ⟨HK.out, .inr ⟨acc, m, _, out, HTK.out, hnm, hml, rfl, HROW.out, HEX.out, by rw [HOL.out, HM.out], by omega, HRD.out⟩⟩
end Go.Proofs.Ytnpnaglgllcpfab
