/-
  Lemmas for the law All: Rd5, Rd6, Conv.
-/
import Derived.Test.YtnpnaglgllcpfaaGreatM12
import Derived.Test.YtnpnaglgllcpfaaGreatM01
import Derived.Laws.IdiomStrings
import Derived.Laws.BytesArg
/- What the document's reader does to memory: a frame. -/
namespace Go.Proofs.YtnpnaglgllcpfaaGreat
set_option maxRecDepth 100000
open Go.RowKit

/-- How a frame ends. -/
def FrameAns (w w' : World) (q B : Nat) (L : List Bool) (n n0 : Nat) (ps : List (List Tok)) (data : List UInt8) (ends : List Nat) (vP vD vE : Value) : Prop :=
  Below q w w' ∧ ((∃ c m, rFrame n (L.drop n0) = .error c ∧ c ≠ 0 ∧ m ≤ L.length ∧ TextAt w' q L m c vP vD vE ∧ Lists w' B ps data ends vP vD vE) ∨
    ∃ ts out m vP' vD' vE', rFrame n (L.drop n0) = .ok (ts, L.drop m) ∧ Tok.expand [] ts = some out ∧ out.length = n ∧ n0 < m ∧ m ≤ L.length ∧ m % 8 = 0 ∧ TextAt w' q L m 0 vP' vD' vE' ∧ Lists w' B (ps ++ [ts]) (data ++ out) (ends ++ [m / 8]) vP' vD' vE')
theorem fr_append {w w2 w3 : World} {q : Nat} {L : List Bool} {m : Nat} {E : Int} {vP vD vE v : Value} {acc : List Tok} {o1 o2 : Obj} (hrow : TokRow w2 w.heap.size v acc) (hk : OneKept w w2 q) (ht : TextAt w2 q L m E vP vD vE) (hq : q < w.heap.size) (hg : ((w2.alloc o1).alloc o2).grownBy w3 v.ownBlock) :
    OneKept w w3 q ∧ TextAt w3 q L m E vP vD vE ∧ w3.heap[w2.heap.size]? = some o1 ∧ w2.heap.size < w3.heap.size := by
  have hz : ((w2.alloc o1).alloc o2).heap.size = w2.heap.size + 2 := by simp
  have hs := hk.size
  have hsz : w2.heap.size + 2 ≤ w3.heap.size := by have := hg.size; rw [hz] at this; exact this
  have hown := fun k hk' => World.ownsRow.lt hrow k hk'
  have hblk : ∀ k, k < w2.heap.size → v.ownBlock ≠ some k → w3.heap[k]? = w2.heap[k]? := fun k h1 h2 => by
    rw [hg.block k (by rw [hz]; omega) (fun e => h2 e.symm), Below.heap_alloc (w2.alloc o1) o2 k (by simp; omega), Below.heap_alloc w2 o1 k h1]
  refine ⟨⟨hg.os.trans hk.os, hg.tape.trans hk.tape, hg.output.trans hk.output, by omega, fun k h1 h2 => ?_⟩, ?_, ?_, by omega⟩
  · rw [hblk k (by omega) (fun e => by have := (hown k e).1; omega)]
    exact hk.heap k h1 h2
  · unfold TextAt
    rw [hblk q (by omega) (fun e => by have := (hown q e).1; omega)]
    exact ht
  · rw [hg.block _ (by rw [hz]; omega) (fun e => by have := (hown _ e.symm).2; omega), Below.heap_alloc (w2.alloc o1) o2 _ (by simp)]
    exact heap_alloc_new w2 o1
theorem text_grown {w w1 : World} {q B n z : Nat} {e : TypeId} {v : Value} {xs : List Value} {L : List Bool} {m : Nat} {E : Int} {vP vD vE : Value} (ho : w.ownsRow B e z v n xs) (hq : q < B) (ht : TextAt w q L m E vP vD vE) (hg : w.grownBy w1 v.ownBlock) : TextAt w1 q L m E vP vD vE := by
  unfold TextAt
  rw [hg.block q ht.lt (fun e => by have := (World.ownsRow.lt ho q e.symm).1; omega)]
  exact ht
theorem grown_text {w w2 : World} {q B n : Nat} {o : Obj} {v : Value} {xs : List Value} {L : List Bool} {m : Nat} {E : Int} {vP vD vE : Value} (ho : w.ownsRow B 3 1 v n xs) (hq : q < B) (ht : TextAt w q L m E vP vD vE) (hg : (w.alloc o).drew.grownBy w2 v.ownBlock) : TextAt w2 q L m E vP vD vE :=
  grown_block (w := w) (x := .cells _ _ _) ht hg (fun e => by have := (World.ownsRow.lt ho q e).1; omega)
set_option maxHeartbeats 2000000 in
theorem rframe_calls (q B : Nat) (L : List Bool) (n n0 : Nat) (ps : List (List Tok)) (data : List UInt8) (ends : List Nat) (vP vD vE : Value) (w : World) (h : TextAt w q L n0 0 vP vD vE) (hls : Lists w B ps data ends vP vD vE) (hq : q < B) (hB : B ≤ w.heap.size) (hn0 : n0 ≤ L.length) (hl : L.length ≤ 100000) (h8 : L.length % 8 = 0) (h1 : 1 ≤ n) (h64 : n ≤ 64) (hps : ps.length ≤ 5000) (hdl : data.length ≤ 400000) (hel : ends.length ≤ 5000) :
    Calls Tryz.prog 76 #[.pointer (some ⟨q, 0, none⟩), .int .i64 n] w fun r w' => r = .returned (.tuple #[]) ∧ FrameAns w w' q B L n n0 ps data ends vP vD vE := by
  have HT : Hid (TextAt w q L n0 0 vP vD vE) := h
  have HL : Hid (Lists w B ps data ends vP vD vE) := hls
  have H8 : Hid (L.length % 8 = 0) := h8
  have hqw := h.lt
  obtain ⟨it, hti, htz0, htz1, htz2⟩ := info_parts infoTok
  clear h hls h8
  go_enter Tryz.func76, Tryz.ntmps76
  go_wp2
  go_loopg [4, 5] (n + 1) (fun g v md wr => ∃ made : Nat, md = .int .i64 made ∧ Hid (FrRel w wr q L n n0 g vP vD vE v made))
  case atStart =>
    refine ⟨0, rfl, [], n0, 0, World.ownsRow_nil _ _ _ _, by omega, OneKept.refl _ _, HT.out, hn0, by simp, .inl ⟨rfl, Nat.le_refl _, rfl, by omega, by simp, ⟨[], rfl, rfl⟩, ?_⟩⟩
    rw [pre_nil]; rfl
  case round =>
    obtain ⟨made, rfl, hrel⟩ := hrel
    obtain ⟨acc, m, E, hrow, hmade, hk, htx, hml, hal, hcase⟩ := hrel.out
    clear hrel
    have HROW : Hid (TokRow wr w.heap.size _ acc) := hrow
    obtain ⟨ao, cp, rfl⟩ := hrow.form
    have HTX : Hid (TextAt wr q L m E vP vD vE) := htx
    have HK : Hid (OneKept w wr q) := hk
    have hsz := hk.size
    obtain ⟨⟨c0, c1, c2⟩, f1, f2⟩ := htx.cell
    clear hrow htx hk c0 c1 f1 f2
    rcases hcase with ⟨rfl, hnm, hg, hmn, ham, hex, heq⟩ | ⟨hE, hg, heq⟩
    · by_cases hlt : made < n
      · have HEX : Hid _ := hex
        have HEQ : Hid (rToks n n 0 (L.drop n0) = pre acc (rToks n (n - acc.length) made (L.drop m))) := heq
        have HG : Hid (gk = n + 1 - made) := hg
        have hsub : (n : Int) - (made : Int) = ((n - made : Nat) : Int) := by omega
        have HSUB : Hid _ := hsub
        clear hex heq hg hsub
        go_wp2_with fail
        rw [HSUB.out]
        refine (token_calls q L m made (n - made) vP vD vE _ HTX.out hml hl (by omega) (by omega)).mono ?_
        rintro r w2 ⟨hk2, hans⟩
        have hs2 := hk2.size
        have HROW2 : Hid (TokRow w2 w.heap.size (.slice ao acc.length cp) acc) := TokRow.kept HROW.out hk2 hqw
        have HK2 : Hid (OneKept w w2 q) := HK.out.trans hk2
        rcases hans with ⟨c, m', l, d, hrt, hc, hm', hl1, hl2, ⟨x, rfl⟩, ht2⟩ | ⟨t, m', hrt, hmm, hm', rfl, ht2⟩
        · have HT2 : Hid (TextAt w2 q L m' c vP vD vE) := ht2
          have HC : Hid (c ≠ 0) := hc
          have HER : Hid (rToks n n 0 (L.drop n0) = .error c) := by
            show _ = _
            rw [HEQ.out, show n - acc.length = (n - acc.length - 1) + 1 by omega]
            exact rToks_error acc hlt hrt
          clear ht2 hc hrt hk2
          go_wp2_with (at_builtin; refine wpList_append_own _ rfl (.tmp 27) (.tmp 29) 32 rfl w.heap.size 42 it (.agg #[.int .i64 0, .int .i64 0, .int .i64 0]) 3 24 Tryz.underlying32 hti htz0 htz1 htz2 rfl (by decide) _ _ _ rfl ((TokRow.alloc HROW2.out _).alloc _) ⟨w2.heap.size + 1, 0, none⟩ 1 1 [.int .i64 l, .int .i64 d, .int .i64 x] rfl rfl ?a1 ?a2 ?a3 ?a4 ?a5 ?_)
          case a1 => intro j u hj; exact cell_new3' _ _ (by simp) _ _ _ _ j u hj
          case a2 => intro u hu; simp at hu; rcases hu with rfl | rfl | rfl <;> rfl
          case a3 => unfold maxLen; omega
          case a4 => omega
          case a5 => first | omega | (simp; omega)
          intro v' w3 hown' hgrow _
          obtain ⟨hk3, ht3, hx3, hz3⟩ := fr_append HROW2.out HK2.out HT2.out hqw hgrow
          have HK3 : Hid (OneKept w w3 q) := hk3
          have HT3 : Hid (TextAt w3 q L m' c vP vD vE) := ht3
          have HR3 : Hid (TokRow w3 w.heap.size v' (acc ++ [⟨l, d, x⟩])) := by
            show w3.ownsRow _ _ _ _ _ _
            rw [cellsT_snoc, List.length_append]
            exact hown'
          obtain ⟨⟨b0, b1, b2⟩, _⟩ := trio_cell hx3
          clear hown' hgrow hk3 ht3 hx3
          go_wp2
          obtain ⟨k, hkk⟩ : ∃ k : Nat, (made : Int) + l = (k : Int) := ⟨made + l.toNat, by omega⟩
          rw [hkk]
          go_roundg 0
          case measure => have := HG.out; omega
          case rel => exact ⟨k, rfl, acc ++ [⟨l, d, x⟩], m', c, HR3.out, by omega, HK3.out, HT3.out, hm', by simp; omega, .inr ⟨HC.out, rfl, HER.out⟩⟩
        · obtain ⟨out, hexp, hol⟩ := HEX.out
          obtain ⟨hexp2, hsl, ht1, ht2', heq2⟩ := fr_step_ok hlt h64 ham hexp hol HEQ.out hrt
          have HT2 : Hid (TextAt w2 q L m' 0 vP vD vE) := ht2
          have HEX2 : Hid (Tok.expand [] (acc ++ [t]) = some (Tok.step out t)) := hexp2
          have HSL : Hid (((Tok.step out t).length : Int) = made + t.len) := hsl
          have HEQ2 : Hid _ := heq2
          clear ht2 hk2 hrt hexp hexp2 hsl heq2 hol
          obtain ⟨l, d, x⟩ := t
          simp only at ht1 ht2'
          go_wp2_with (at_builtin; refine wpList_append_own _ rfl (.tmp 27) (.tmp 29) 32 rfl w.heap.size 42 it (.agg #[.int .i64 0, .int .i64 0, .int .i64 0]) 3 24 Tryz.underlying32 hti htz0 htz1 htz2 rfl (by decide) _ _ _ rfl ((TokRow.alloc HROW2.out _).alloc _) ⟨w2.heap.size + 1, 0, none⟩ 1 1 [.int .i64 l, .int .i64 d, .int .i64 x] rfl rfl ?b1 ?b2 ?b3 ?b4 ?b5 ?_)
          case b1 => intro j u hj; exact cell_new3' _ _ (by simp) _ _ _ _ j u hj
          case b2 => intro u hu; simp at hu; rcases hu with rfl | rfl | rfl <;> rfl
          case b3 => unfold maxLen; omega
          case b4 => omega
          case b5 => first | omega | (simp; omega)
          intro v' w3 hown' hgrow _
          obtain ⟨hk3, ht3, hx3, hz3⟩ := fr_append HROW2.out HK2.out HT2.out hqw hgrow
          have HK3 : Hid (OneKept w w3 q) := hk3
          have HT3 : Hid (TextAt w3 q L m' 0 vP vD vE) := ht3
          have HR3 : Hid (TokRow w3 w.heap.size v' (acc ++ [⟨l, d, x⟩])) := by
            show w3.ownsRow _ _ _ _ _ _
            rw [cellsT_snoc, List.length_append]
            exact hown'
          obtain ⟨⟨b0, b1, b2⟩, _⟩ := trio_cell hx3
          clear hown' hgrow hk3 ht3 hx3
          go_wp2
          obtain ⟨k, hkk⟩ : ∃ k : Nat, (made : Int) + l = (k : Int) := ⟨made + l.toNat, by omega⟩
          have hk2 : k = made + l.toNat := by omega
          rw [hkk]
          go_roundg (n + 1 - k)
          case measure => have := HG.out; omega
          case rel =>
            refine ⟨k, rfl, acc ++ [⟨l, d, x⟩], m', 0, HR3.out, by omega, HK3.out, HT3.out, hm', by simp; omega, .inl ⟨rfl, by omega, rfl, by omega, by simp; omega, ⟨_, HEX2.out, ?_⟩, ?_⟩⟩
            · have := HSL.out
              omega
            · rw [hk2]; exact HEQ2.out
      · have hmade : made = n := by omega
        subst hmade
        obtain ⟨out, hexp, hol⟩ := hex
        have HEX : Hid (Tok.expand [] acc = some out) := hexp
        have HOL : Hid (out.length = made) := hol
        have HTK : Hid (rToks made made 0 (L.drop n0) = .ok (acc, L.drop m)) := by show _ = _; rw [heq]; exact rToks_done acc (Nat.le_refl _)
        have HG : Hid _ := hg
        clear hexp hol heq hg
        go_wp2_with fail
        refine (rest_calls q L m vP vD vE _ HTX.out hml hl H8.out).mono ?_
        rintro r w2 ⟨rfl, hk2, ⟨hpad, m2, hm2, ht2⟩ | ⟨hpad, hbe, ht2⟩⟩
        · have HR : Hid (rFrame made (L.drop n0) = .error 7) := rFrame_pad HTK.out hpad
          obtain ⟨⟨c0, c1, c2⟩, f1, f2⟩ := ht2.cell
          have HT2 : Hid (TextAt w2 q L m2 7 vP vD vE) := ht2
          have HK2 : Hid (OneKept w w2 q) := HK.out.trans hk2
          clear ht2 hk2 hpad c0 c1 f1 f2
          go_wp2_with fail
          refine (take_err q L m2 7 8 vP vD vE _ HT2.out (by decide)).mono ?_
          rintro r w3 ⟨rfl, rfl⟩
          go_wp2_with fail
          refine (take_err q L m2 7 8 vP vD vE _ HT2.out (by decide)).mono ?_
          rintro r w4 ⟨rfl, rfl⟩
          go_wp2
          go_returns
          exact ⟨rfl, HK2.out.below (Nat.le_refl _) (by omega), .inl ⟨7, m2, HR.out, by decide, hm2, HT2.out, HL.out.one HK2.out hq⟩⟩
        · have HPAD : Hid (padB (L.drop m) = true) := hpad
          have HT2 : Hid (TextAt w2 q L (byteEnd L m) 0 vP vD vE) := ht2
          have HK2 : Hid (OneKept w w2 q) := HK.out.trans hk2
          have HROW2 : Hid (TokRow w2 w.heap.size (.slice ao acc.length cp) acc) := TokRow.kept HROW.out hk2 hqw
          have hmb : m ≤ byteEnd L m := by unfold byteEnd; omega
          have HB8 : Hid (byteEnd L m % 8 = 0) := by show _ = _; have := H8.out; unfold byteEnd; omega
          clear ht2 hk2 hpad
          generalize hp : byteEnd L m = p at *
          have HP : Hid (byteEnd L m = p) := hp
          clear hp
          by_cases hs1 : L.length < p + 8
          · have HR : Hid (rFrame made (L.drop n0) = .error 4) := rFrame_short HTK.out HPAD.out (by rw [HP.out]; omega)
            go_wp2_with fail
            refine (take_short q L p 8 vP vD vE _ HT2.out hbe hl (by omega) (by omega) (by omega)).mono ?_
            rintro r w3 ⟨rfl, ht3, hk3⟩
            obtain ⟨⟨c0, c1, c2⟩, f1, f2⟩ := ht3.cell
            have HT3 : Hid (TextAt w3 q L p 4 vP vD vE) := ht3
            have HK3 : Hid (OneKept w w3 q) := HK2.out.trans hk3
            clear ht3 hk3 c0 c1 f1 f2
            go_wp2_with fail
            refine (take_err q L p 4 8 vP vD vE _ HT3.out (by decide)).mono ?_
            rintro r w4 ⟨rfl, rfl⟩
            go_wp2
            go_returns
            exact ⟨rfl, HK3.out.below (Nat.le_refl _) (by omega), .inl ⟨4, p, HR.out, by decide, hbe, HT3.out, HL.out.one HK3.out hq⟩⟩
          · have hlow : ((L.drop p).take 8).length ≤ 16 := by rw [List.length_take]; omega
            have HLOW : Hid (((L.drop p).take 8).length ≤ 16) := hlow
            clear hlow
            go_wp2_with fail
            refine (take_ok q L p 8 vP vD vE _ HT2.out hl (by omega)).mono ?_
            rintro r w3 ⟨rfl, ht3, hk3⟩
            have HT3 : Hid (TextAt w3 q L (p + 8) 0 vP vD vE) := ht3
            have HK3 : Hid (OneKept w w3 q) := HK2.out.trans hk3
            have HROW3 : Hid (TokRow w3 w.heap.size (.slice ao acc.length cp) acc) := TokRow.kept HROW2.out hk3 hqw
            clear ht3 hk3
            by_cases hs2 : L.length < p + 8 + 8
            · have HR : Hid (rFrame made (L.drop n0) = .error 4) := rFrame_short HTK.out HPAD.out (by rw [HP.out]; omega)
              go_wp2_with fail
              refine (take_short q L (p + 8) 8 vP vD vE _ HT3.out (by omega) hl (by omega) (by omega) (by omega)).mono ?_
              rintro r w4 ⟨rfl, ht4, hk4⟩
              obtain ⟨⟨c0, c1, c2⟩, f1, f2⟩ := ht4.cell
              have HT4 : Hid (TextAt w4 q L (p + 8) 4 vP vD vE) := ht4
              have HK4 : Hid (OneKept w w4 q) := HK3.out.trans hk4
              clear ht4 hk4 c0 c1 f1 f2
              go_wp2
              go_returns
              exact ⟨rfl, HK4.out.below (Nat.le_refl _) (by omega), .inl ⟨4, p + 8, HR.out, by decide, by omega, HT4.out, HL.out.one HK4.out hq⟩⟩
            · have hhigh : ((L.drop (p + 8)).take 8).length ≤ 16 := by rw [List.length_take]; omega
              have HHIGH : Hid (((L.drop (p + 8)).take 8).length ≤ 16) := hhigh
              have hv1 : valB ((L.drop p).take 8) < 256 := valB_byte _ (by rw [List.length_take]; omega)
              have hv2 : valB ((L.drop (p + 8)).take 8) < 256 := valB_byte _ (by rw [List.length_take]; omega)
              clear hhigh
              go_wp2_with fail
              refine (take_ok q L (p + 8) 8 vP vD vE _ HT3.out hl (by omega)).mono ?_
              rintro r w4 ⟨rfl, ht4, hk4⟩
              obtain ⟨⟨c0, c1, c2⟩, f1, f2⟩ := ht4.cell
              have HT4 : Hid (TextAt w4 q L (p + 8 + 8) 0 vP vD vE) := ht4
              have HK4 : Hid (OneKept w w4 q) := HK3.out.trans hk4
              have HROW4 : Hid (TokRow w4 w.heap.size (.slice ao acc.length cp) acc) := TokRow.kept HROW3.out hk4 hqw
              have hs4 := hk4.size
              clear ht4 hk4 c0 c1 f1 f2
              go_wp2_with fail
              refine (make_calls ao acc cp _ (by omega) (TokRow.toks HROW4.out)).mono ?_
              rintro r w5 ⟨hb5, ⟨he, _⟩ | ⟨out', vo, he, ho, rfl, hown⟩⟩
              · rw [HEX.out] at he; cases he
              · rw [HEX.out] at he; cases he
                have HT5 : Hid (TextAt w5 q L (p + 8 + 8) 0 vP vD vE) := TextAt.below HT4.out hb5
                have HL5 : Hid (Lists w5 B ps data ends vP vD vE) := (HL.out.one HK4.out hq).below hb5
                have HROW5 : Hid (TokRow w5 w.heap.size (.slice ao acc.length cp) acc) := World.ownsRow.kept HROW4.out (row := none) ⟨hb5.os, hb5.tape, hb5.output, hb5.size, fun k hk _ => hb5.block k hk⟩ (by cases hv : (Value.slice ao acc.length cp).ownBlock <;> simp)
                have hs5 := hb5.size
                have hs40 := HK4.out.size
                have hbq : Below q w w5 := (HK4.out.below (Nat.le_refl _) (by omega)).trans (hb5.mono (by omega))
                have HBQ : Hid (Below q w w5) := hbq
                have HOW : Hid (OwnB w5 w4.heap.size vo out) := hown
                obtain ⟨pa, pc, rfl, hpa, hpo⟩ := BytesAt.own hown
                have HPA : Hid (BytesAt w5 pa out) := hpa
                have htr := total_range out
                clear hown hb5 hbq hpa hpo
                go_wp2_with fail
                refine (value_calls _ _ HLOW.out).mono ?_
                rintro r w6 ⟨rfl, rfl⟩
                go_wp2_with fail
                refine (value_calls _ _ HHIGH.out).mono ?_
                rintro r w7 ⟨rfl, rfl⟩
                go_wp2_with fail
                refine (refSum_calls pa out pc _ (by omega) HPA.out).mono ?_
                rintro r w8 ⟨rfl, rfl⟩
                have HTOT : Hid (Plain.total out = Plain.total out) := rfl
                by_cases hsum : (valB ((L.drop p).take 8) : Int) + 256 * (valB ((L.drop (p + 8)).take 8) : Int) = Plain.total out
                · have HR : Hid (rFrame made (L.drop n0) = .ok (acc, L.drop (p + 8 + 8))) := by
                    have := rFrame_ok HTK.out HPAD.out (by rw [HP.out]; omega) HEX.out (by rw [HP.out]; exact hsum)
                    rw [HP.out] at this
                    exact this
                  have hne : ((valB ((L.drop p).take 8) : Int) + 256 * (valB ((L.drop (p + 8)).take 8) : Int) != Plain.total out) = false := by simpa using hsum
                  generalize Plain.total out = S at *
                  generalize valB ((L.drop p).take 8) = y1 at *
                  generalize valB ((L.drop (p + 8)).take 8) = y2 at *
                  have HSUM : Hid _ := hsum
                  clear hsum
                  obtain ⟨⟨d3, d4, d5⟩, g3, g4, g5⟩ := TextAt.lists HT5.out
                  obtain ⟨vs, hpo, hpr⟩ := HL5.out.pieces
                  have HPO : Hid (w8.ownsRow B 32 1 vP ps.length vs) := hpo
                  have HPR : Hid _ := hpr
                  have hqw8 : q < w8.heap.size := HT5.out.lt
                  obtain ⟨ip, hpi, hpz0, hpz1, hpz2⟩ := info_parts infoToks
                  clear hpo hpr
                  go_wp2_with (at_builtin; refine wpList_append_own _ rfl (.tmp 66) (.tmp 68) 27 rfl B 32 ip (.slice none 0 0) 1 24 Tryz.underlying27 hpi hpz0 hpz1 hpz2 rfl (by decide) _ _ _ rfl (HPO.out.alloc _) ⟨w8.heap.size, 0, none⟩ 1 1 [.slice ao acc.length cp] rfl rfl ?p1 ?p2 ?p3 ?p4 ?p5 ?_)
                  case p1 => intro j u hj; exact cell_new1 _ _ _ j u hj
                  case p2 => first | rfl | (intro u hu; simp at hu; subst hu; rfl)
                  case p3 => unfold maxLen; omega
                  case p4 => omega
                  case p5 => first | omega | (simp; omega)
                  intro v' w9 hown9 hgrow9 _
                  obtain ⟨g9, cp9, rfl⟩ : ∃ g c, v' = .slice (some ⟨g, 0, none⟩) (ps.length + 1) c := by
                    rcases hown9.2 with ⟨_, h⟩ | ⟨g, c, _, h, _⟩
                    · omega
                    · exact ⟨g, c, h⟩
                  have ht9 := text_grown (HPO.out.alloc _) hq (TextAt.below HT5.out ((Below.refl _ _).alloc (Nat.le_refl _) _)) hgrow9
                  obtain ⟨⟨e3, e4, e5⟩, k3, k4, k5⟩ := ht9.lists
                  obtain ⟨⟨e0, e1, e2⟩, k1, k2⟩ := ht9.cell
                  have T9 : TextAt (w9.setCell ⟨q, 3, none⟩ (.slice (some ⟨g9, 0, none⟩) (ps.length + 1) cp9)) q L (p + 8 + 8) 0 (.slice (some ⟨g9, 0, none⟩) (ps.length + 1) cp9) vD vE := by
                    unfold TextAt
                    rw [set_block ht9]; rfl
                  have hal5 : ∀ i, i < ps.length → ∃ a c, vs[i]? = some (.slice a (ps.getD i []).length c) ∧ TokRow (w8.alloc (.cells #[.slice ao acc.length cp] 32)) B (.slice a (ps.getD i []).length c) (ps.getD i []) := fun i hi => by
                    obtain ⟨a, c, g1, g2⟩ := HPR.out i hi
                    exact ⟨a, c, g1, TokRow.alloc g2 _⟩
                  have hts : TokRow (w8.alloc (.cells #[.slice ao acc.length cp] 32)) B (.slice ao acc.length cp) acc := by
                    refine TokRow.alloc (B := B) ?_ _
                    exact ⟨HROW5.out.1, HROW5.out.2.elim Or.inl (fun ⟨g, cap, cur, hv, hg, r⟩ => Or.inr ⟨g, cap, cur, hv, Nat.le_trans hB hg, r⟩)⟩
                  have L9 : Lists (w9.setCell ⟨q, 3, none⟩ (.slice (some ⟨g9, 0, none⟩) (ps.length + 1) cp9)) B (ps ++ [acc]) data ends (.slice (some ⟨g9, 0, none⟩) (ps.length + 1) cp9) vD vE :=
                    pieces_after hq (HPO.out.alloc _) hal5 (HL5.out.data.alloc _) (World.ownsRow.alloc HL5.out.ends _) hts hown9 hgrow9
                  have O9 : OwnB (w9.setCell ⟨q, 3, none⟩ (.slice (some ⟨g9, 0, none⟩) (ps.length + 1) cp9)) w4.heap.size (.slice pa out.length pc) out :=
                    own_after (HOW.out.alloc _) (by omega) hgrow9 (own_ne HOW.out HPO.out (by decide))
                  have B9 : Below q w (w9.setCell ⟨q, 3, none⟩ (.slice (some ⟨g9, 0, none⟩) (ps.length + 1) cp9)) :=
                    below_after (HBQ.out.alloc (by omega) _) (HPO.out.alloc _) hq (by simp; omega) hgrow9
                  have hsw9 : w8.heap.size ≤ w9.heap.size := by have := hgrow9.size; simp at this; omega
                  have H9 : Hid _ := T9
                  have HL9 : Hid _ := L9
                  have HO9 : Hid _ := O9
                  have HB9 : Hid _ := B9
                  clear hown9 hgrow9 ht9 T9 hal5 hts L9 O9 B9 d3 d4 d5 g3 g4 g5 e0 k1 k2
                  obtain ⟨gp, cpp, hvp, _, _, hcp⟩ := OwnB.at HO9.out (by have := HOL.out; omega)
                  simp at hvp
                  obtain ⟨rfl, rfl⟩ := hvp
                  have HCP : Hid (∀ j u, (cellsB out)[j]? = some u → (w9.setCell ⟨q, 3, none⟩ (.slice (some ⟨g9, 0, none⟩) (ps.length + 1) cp9)).cell? ((⟨gp, 0, none⟩ : Addr).add j) = some u) := fun j u hu => World.ownsRow.cells HO9.out (g := gp) rfl j u hu
                  have HC1 : Hid (∀ u ∈ cellsB out, u.oneCell' = true) := fun u hu => by
                    simp only [cellsB, List.mem_map] at hu
                    obtain ⟨b, _, rfl⟩ := hu
                    rfl
                  obtain ⟨i8, hi8, h80, h81, h82⟩ := info_parts info8
                  have hol : out.length ≤ 64 := ho
                  clear hcp
                  go_wp2_with (at_builtin; refine wpList_append_own _ rfl (.tmp 76) (.tmp 77) 37 rfl B 5 i8 (.int .u8 0) 1 1 Tryz.underlying37 hi8 h80 h81 h82 rfl (by decide) _ _ _ rfl HL9.out.data ⟨gp, 0, none⟩ out.length pc (cellsB out) rfl (by rw [cellsB_length, Nat.mul_one]) HCP.out HC1.out ?y3 ?y4 ?y5 ?_)
                  case y3 => unfold maxLen; omega
                  case y4 => omega
                  case y5 => first | omega | (simp; omega)
                  intro v' w10 hown10 hgrow10 _
                  obtain ⟨g10, cp10, rfl⟩ : ∃ g c, v' = .slice (some ⟨g, 0, none⟩) (data.length + out.length) c := by
                    rcases hown10.2 with ⟨_, h⟩ | ⟨g, c, _, h, _⟩
                    · have := HOL.out; omega
                    · exact ⟨g, c, h⟩
                  have ht10 := text_grown HL9.out.data hq H9.out hgrow10
                  obtain ⟨⟨a3, a4, a5⟩, q3, q4, q5⟩ := ht10.lists
                  obtain ⟨⟨a0, a1, a2⟩, q1, q2⟩ := ht10.cell
                  have T10 : TextAt (w10.setCell ⟨q, 4, none⟩ (.slice (some ⟨g10, 0, none⟩) (data.length + out.length) cp10)) q L (p + 8 + 8) 0 (.slice (some ⟨g9, 0, none⟩) (ps.length + 1) cp9) (.slice (some ⟨g10, 0, none⟩) (data.length + out.length) cp10) vE := by
                    unfold TextAt
                    rw [set_block ht10]; rfl
                  have L10 : Lists (w10.setCell ⟨q, 4, none⟩ (.slice (some ⟨g10, 0, none⟩) (data.length + out.length) cp10)) B (ps ++ [acc]) (data ++ out) ends (.slice (some ⟨g9, 0, none⟩) (ps.length + 1) cp9) (.slice (some ⟨g10, 0, none⟩) (data.length + out.length) cp10) vE :=
                    data_after hq HL9.out hown10 hgrow10
                  have B10 : Below q w (w10.setCell ⟨q, 4, none⟩ (.slice (some ⟨g10, 0, none⟩) (data.length + out.length) cp10)) :=
                    below_after HB9.out HL9.out.data hq (by simp; omega) hgrow10
                  have hsw10 : w9.heap.size ≤ w10.heap.size := by have := hgrow10.size; simp at this; omega
                  have H10 : Hid _ := T10
                  have HL10 : Hid _ := L10
                  have HB10 : Hid _ := B10
                  clear hown10 hgrow10 ht10 T10 L10 B10 e1 e2 e3 e4 e5 k3 k4 k5 a0 q1 q2
                  go_wp2_with fail
                  have hsz11 : w10.heap.size = (w10.setCell ⟨q, 4, none⟩ (.slice (some ⟨g10, 0, none⟩) (data.length + out.length) cp10)).heap.size := by simp
                  have hq11 : q < (w10.setCell ⟨q, 4, none⟩ (.slice (some ⟨g10, 0, none⟩) (data.length + out.length) cp10)).heap.size := by rw [← hsz11]; omega
                  have hB11 : B ≤ (w10.setCell ⟨q, 4, none⟩ (.slice (some ⟨g10, 0, none⟩) (data.length + out.length) cp10)).heap.size := by rw [← hsz11]; omega
                  clear a1 a2 a3 a4 a5 q3 q4 q5 hsz11
                  generalize (w10.setCell ⟨q, 4, none⟩ (.slice (some ⟨g10, 0, none⟩) (data.length + out.length) cp10)) = w11 at *
                  obtain ⟨⟨s3, s4, s5⟩, t3, t4, t5⟩ := TextAt.lists H10.out
                  obtain ⟨⟨s0, s1, s2⟩, t1, t2⟩ := TextAt.cell H10.out
                  obtain ⟨P, hPP⟩ : ∃ P, P = p + 8 + 8 := ⟨_, rfl⟩
                  rw [← hPP] at s1
                  have hP1 : P ≤ L.length := by omega
                  have HPP : Hid (P = p + 8 + 8) := hPP
                  clear s0 s2 s3 s4 t1 t2 t3 t4 hPP
                  obtain ⟨ie, hei, hez0, hez1, hez2⟩ := info_parts infoInt
                  obtain ⟨eo, ec, hve⟩ : ∃ eo ec, vE = .slice eo ends.length ec := by
                    rcases HL10.out.ends.2 with ⟨h, hn⟩ | ⟨g, c, _, h, _⟩
                    · exact ⟨none, 0, by rw [h, hn]⟩
                    · exact ⟨_, _, h⟩
                  subst hve
                  have HEO : Hid (w11.ownsRow B 3 1 (.slice eo ends.length ec) ends.length (ends.map fun n : Nat => Value.int .i64 (n : Int))) := HL10.out.ends
                  have hPd : IntKind.i64.wrap ((P : Int) / 8) = ((P / 8 : Nat) : Int) := by rw [IntWalk.i64_in _ ⟨by omega, by omega⟩]; omega
                  have HPD : Hid (IntKind.i64.wrap ((P : Int) / 8) = ((P / 8 : Nat) : Int)) := hPd
                  clear hPd
                  go_region_law (refine step_append_lies _ rfl (.tmp 85) (.tmp 91) 90 rfl B 3 ie (.int .i64 0) 1 8 Tryz.underlying90 hei hez0 hez1 hez2 rfl (by decide) (.slice eo ends.length ec) _ _ (by simp [Act.eval]) (by exact HEO.out.alloc _) ⟨w11.heap.size, 0, none⟩ 1 1 [.int .i64 (IntKind.i64.wrap ((P : Int) / 8))] (by simp [Act.eval]) rfl (by intro j u hj; exact cell_new1 _ _ _ j u hj) (by intro u hu; simp at hu; subst hu; rfl) (by decide) (by unfold maxLen; omega) (by omega) (by simp; omega) _ rfl ?_; intro g cap w12 hown12 hgrow12 hat hlt12; have ht12 := grown_text HEO.out hq H10.out hgrow12; obtain ⟨⟨z3, z4, z5⟩, y3, y4, y5⟩ := TextAt.lists ht12; clear ht12)
                  all_goals
                    go_wp2
                    go_end0
                    rw [HPD.out] at hown12
                    have hst : q ≠ g := fun e => by
                      have := (World.ownsRow.lt hown12 g rfl).1
                      omega
                    have ht12 := grown_text HEO.out hq H10.out hgrow12
                    have hb11 : Below w11.heap.size w11 (w11.alloc (.cells #[.int .i64 (IntKind.i64.wrap ((P : Int) / 8))] 3)).drew := ((Below.refl _ _).alloc (Nat.le_refl _) _).drew
                    have hL12 := ends_after (u := .slice (some ⟨g, 0, none⟩) (ends.length + 1) cap) (i0 := 5) hq (HL10.out.below hb11) hown12 hgrow12
                    have hT12 : TextAt (w12.setCell ⟨q, 5, none⟩ (.slice (some ⟨g, 0, none⟩) (ends.length + 1) cap)) q L (p + 8 + 8) 0 (.slice (some ⟨g9, 0, none⟩) (ps.length + 1) cp9) (.slice (some ⟨g10, 0, none⟩) (data.length + out.length) cp10) (.slice (some ⟨g, 0, none⟩) (ends.length + 1) cap) := by
                      unfold TextAt
                      rw [set_block ht12]; rfl
                    have hB12 : Below q w (w12.setCell ⟨q, 5, none⟩ (.slice (some ⟨g, 0, none⟩) (ends.length + 1) cap)) :=
                      below_after (HB10.out.trans (hb11.mono (by omega))) (by exact HEO.out.alloc _) hq (by show q ≤ (w11.alloc _).heap.size; simp; omega) hgrow12
                    have h8P : (p + 8 + 8) % 8 = 0 := by have := HB8.out; omega
                    rw [HPP.out] at hL12
                    exact ⟨rfl, hB12, .inr ⟨acc, out, p + 8 + 8, _, _, _, HR.out, HEX.out, HOL.out, by omega, by omega, h8P, hT12, hL12⟩⟩
                · have HR : Hid (rFrame made (L.drop n0) = .error 8) := rFrame_sum HTK.out HPAD.out (by rw [HP.out]; omega) HEX.out (by rw [HP.out]; exact hsum)
                  have hne : ((valB ((L.drop p).take 8) : Int) + 256 * (valB ((L.drop (p + 8)).take 8) : Int) != Plain.total out) = true := by simpa using hsum
                  generalize Plain.total out = S at *
                  generalize valB ((L.drop p).take 8) = y1 at *
                  generalize valB ((L.drop (p + 8)).take 8) = y2 at *
                  clear hsum
                  go_wp2_with fail
                  refine (err_sets q L (p + 8 + 8) 8 vP vD vE _ HT5.out).mono ?_
                  rintro r w9 ⟨rfl, ht9, hk9⟩
                  have HT9 : Hid (TextAt w9 q L (p + 8 + 8) 8 vP vD vE) := ht9
                  have HL9 : Hid (Lists w9 B ps data ends vP vD vE) := HL5.out.one hk9 hq
                  have HB9 : Hid (Below q w w9) := HBQ.out.trans (hk9.below (Nat.le_refl _) (by omega))
                  clear ht9 hk9
                  go_wp2
                  go_returns
                  exact ⟨rfl, HB9.out, .inl ⟨8, p + 8 + 8, HR.out, by decide, by omega, HT9.out, HL9.out⟩⟩
    · have HE : Hid (E ≠ 0) := hE
      have HR : Hid (rFrame n (L.drop n0) = .error E) := rFrame_toks heq
      have hE1 : (E == 0) = false := beq_eq_false_iff_ne.2 hE
      have hE' : (E != 0) = true := by simpa using hE
      have HG : Hid _ := hg
      clear hE hg heq
      go_wp2_with fail
      refine (rest_err q L m E vP vD vE _ HTX.out HE.out).mono ?_
      rintro r w1 ⟨rfl, rfl⟩
      go_wp2_with fail
      refine (take_err q L m E 8 vP vD vE _ HTX.out HE.out).mono ?_
      rintro r w2 ⟨rfl, rfl⟩
      go_wp2_with fail
      refine (take_err q L m E 8 vP vD vE _ HTX.out HE.out).mono ?_
      rintro r w3 ⟨rfl, rfl⟩
      go_wp2
      go_returns
      exact ⟨rfl, HK.out.below (Nat.le_refl _) (by omega), .inl ⟨E, m, HR.out, HE.out, hml, HTX.out, HL.out.one HK.out hq⟩⟩
end Go.Proofs.YtnpnaglgllcpfaaGreat

/- What the document's reader does to memory: the first three bytes. -/
namespace Go.Proofs.YtnpnaglgllcpfaaGreat
set_option maxRecDepth 100000
open Go.RowKit

def MagRel (w wr : World) (q : Nat) (L : List Bool) (vP vD vE : Value) (k : Nat) : Prop :=
  OneKept w wr q ∧ ((8 * k ≤ L.length ∧ TextAt wr q L (8 * k) 0 vP vD vE ∧ rMagic [80, 90, 49] L = rMagic ([80, 90, 49].drop k) (L.drop (8 * k))) ∨
    ∃ c m, c ≠ 0 ∧ m ≤ L.length ∧ TextAt wr q L m c vP vD vE ∧ rMagic [80, 90, 49] L = .error c)
set_option maxHeartbeats 1000000 in
/-- One byte of the first three. -/
theorem magic_round (q : Nat) (L : List Bool) (vP vD vE : Value) (w wr : World) (k : Nat) (b : Nat) (bs : List Nat) (hk : ([80, 90, 49] : List Nat).drop k = b :: bs) (hl : L.length ≤ 100000) (hr : MagRel w wr q L vP vD vE k) :
    Calls Tryz.prog 96 #[.pointer (some ⟨q, 0, none⟩), .int .i64 8] wr fun r w' => ∃ l, l.length ≤ 16 ∧ r = .returned (.string (text l)) ∧ OneKept w w' q ∧
      ((∃ m, m ≤ L.length ∧ TextAt w' q L m 0 vP vD vE ∧ ((valB l = b ∧ m = 8 * (k + 1) ∧ rMagic [80, 90, 49] L = rMagic ([80, 90, 49].drop (k + 1)) (L.drop (8 * (k + 1)))) ∨ (valB l ≠ b ∧ rMagic [80, 90, 49] L = .error 3))) ∨
       ∃ c m, c ≠ 0 ∧ m ≤ L.length ∧ TextAt w' q L m c vP vD vE ∧ rMagic [80, 90, 49] L = .error c) := by
  obtain ⟨hkp, ⟨h8, ht, heq⟩ | ⟨c, m, hc, hm, ht, heq⟩⟩ := hr
  · rw [hk] at heq
    replace heq := heq.trans (show rMagic (b :: bs) (L.drop (8 * k)) = if (L.drop (8 * k)).length < 8 then .error 4 else if valB ((L.drop (8 * k)).take 8) = b then rMagic bs ((L.drop (8 * k)).drop 8) else .error 3 from rfl)
    rcases Nat.lt_or_ge L.length (8 * k + 8) with h | h
    · refine (take_short q L (8 * k) 8 vP vD vE wr ht h8 hl (by omega) (by omega) (by omega)).mono ?_
      rintro r w1 ⟨rfl, ht1, hk1⟩
      rw [if_pos (by rw [List.length_drop]; omega)] at heq
      exact ⟨[], by simp, rfl, hkp.trans hk1, .inr ⟨4, 8 * k, by decide, h8, ht1, heq⟩⟩
    · refine (take_ok q L (8 * k) 8 vP vD vE wr ht hl (by omega)).mono ?_
      rintro r w1 ⟨rfl, ht1, hk1⟩
      rw [if_neg (by rw [List.length_drop]; omega)] at heq
      refine ⟨(L.drop (8 * k)).take 8, by rw [List.length_take]; omega, rfl, hkp.trans hk1, .inl ⟨8 * k + 8, by omega, ht1, ?_⟩⟩
      by_cases hv : valB ((L.drop (8 * k)).take 8) = b
      · rw [if_pos hv, List.drop_drop] at heq
        exact .inl ⟨hv, by omega, by rw [magic_at k b bs hk, heq]; rfl⟩
      · rw [if_neg hv] at heq
        exact .inr ⟨hv, heq⟩
  · refine (take_err q L m c 8 vP vD vE wr ht hc).mono ?_
    rintro r w1 ⟨rfl, rfl⟩
    exact ⟨[], by simp, rfl, hkp, .inr ⟨c, m, hc, hm, ht, heq⟩⟩
set_option maxHeartbeats 1000000 in
theorem magic_calls (q : Nat) (L : List Bool) (vP vD vE : Value) (w : World) (h : TextAt w q L 0 0 vP vD vE) (hl : L.length ≤ 100000) :
    Calls Tryz.prog 72 #[.pointer (some ⟨q, 0, none⟩)] w fun r w' => r = .returned (.tuple #[]) ∧ MagRel w w' q L vP vD vE 3 := by
  have HT : Hid (TextAt w q L 0 0 vP vD vE) := h
  clear h
  go_enter Tryz.func72, Tryz.ntmps72
  go_wp2
  go_loopw [2] (fun i wr => ∃ (k : Nat), k ≤ 3 ∧ i = .int .i64 k ∧ Hid (MagRel w wr q L vP vD vE k)) (fun i _ => 3 - (intOf i).toNat)
  case atStart => exact ⟨0, by omega, rfl, OneKept.refl _ _, .inl ⟨by omega, HT.out, rfl⟩⟩
  case round =>
    obtain ⟨k, hk, rfl, hrel⟩ := hrel
    rcases (show k = 0 ∨ k = 1 ∨ k = 2 ∨ k = 3 by omega) with rfl | rfl | rfl | rfl
    · have HM : Hid _ := magic_round q L vP vD vE w wr 0 80 [90, 49] rfl hl hrel.out
      have hmg := magic0
      clear hrel
      go_wp2_with fail
      refine (Calls.mono HM.out ?_)
      rintro r w1 ⟨l, hll, rfl, hk1, ⟨m, hm, ht1, hcase⟩ | ⟨c, m, hc, hm, ht1, heq⟩⟩
      · obtain ⟨⟨c0, c1, c2⟩, f1, f2⟩ := ht1.cell
        have HT1 : Hid (TextAt w1 q L m 0 vP vD vE) := ht1
        clear ht1 c0 c1 f1 f2 HM
        rcases hcase with ⟨hv, hm8, heq⟩ | ⟨hv, heq⟩
        · have hne : ((valB l : Int) != 80) = false := by rw [hv]; decide
          have HMM : Hid (m = 8 * (0 + 1)) := hm8
          have HEQ : Hid _ := heq
          clear hv hm8 heq
          go_wp2_with fail
          go_quiet ((go_at_call 97; exact Calls.quiet_of_same (value_calls l _ hll)))
          go_wp2
          go_roundw
          case rel => exact ⟨0 + 1, by omega, by go_num, hk1.drewN _, .inl ⟨by have := HMM.out; omega, by rw [← HMM.out]; exact HT1.out, HEQ.out⟩⟩
          case measure => simp [intOf]
        · have hne : ((valB l : Int) != 80) = true := by simp; omega
          have HEQ : Hid _ := heq
          clear hv heq
          go_wp2_with fail
          go_quiet ((go_at_call 97; exact Calls.quiet_of_same (value_calls l _ hll)))
          go_wp2_with fail
          refine (err_sets q L m 3 vP vD vE _ (by exact HT1.out)).mono ?_
          rintro r w2 ⟨rfl, ht2, hk2⟩
          have HT2 : Hid (TextAt w2 q L m 3 vP vD vE) := ht2
          have HK2 : Hid (OneKept w w2 q) := (hk1.drewN _).trans hk2
          clear ht2 hk2
          go_wp2
          go_roundw
          case rel => exact ⟨0 + 1, by omega, by go_num, HK2.out, .inr ⟨3, m, by decide, hm, HT2.out, HEQ.out⟩⟩
          case measure => simp [intOf]
      · obtain ⟨⟨c0, c1, c2⟩, f1, f2⟩ := ht1.cell
        have HT1 : Hid (TextAt w1 q L m c vP vD vE) := ht1
        have HC : Hid (c ≠ 0) := hc
        have hc0 : (c == 0) = false := beq_eq_false_iff_ne.2 hc
        have HEQ : Hid _ := heq
        clear ht1 c0 c1 f1 f2 HM hc heq
        go_wp2_with fail
        go_quiet (fail)
        go_wp2
        go_roundw
        case rel => exact ⟨0 + 1, by omega, by go_num, hk1.drewN _, .inr ⟨c, m, HC.out, hm, HT1.out, HEQ.out⟩⟩
        case measure => simp [intOf]
    · have HM : Hid _ := magic_round q L vP vD vE w wr 1 90 [49] rfl hl hrel.out
      have hmg := magic1
      clear hrel
      go_wp2_with fail
      refine (Calls.mono HM.out ?_)
      rintro r w1 ⟨l, hll, rfl, hk1, ⟨m, hm, ht1, hcase⟩ | ⟨c, m, hc, hm, ht1, heq⟩⟩
      · obtain ⟨⟨c0, c1, c2⟩, f1, f2⟩ := ht1.cell
        have HT1 : Hid (TextAt w1 q L m 0 vP vD vE) := ht1
        clear ht1 c0 c1 f1 f2 HM
        rcases hcase with ⟨hv, hm8, heq⟩ | ⟨hv, heq⟩
        · have hne : ((valB l : Int) != 90) = false := by rw [hv]; decide
          have HMM : Hid (m = 8 * (1 + 1)) := hm8
          have HEQ : Hid _ := heq
          clear hv hm8 heq
          go_wp2_with fail
          go_quiet ((go_at_call 97; exact Calls.quiet_of_same (value_calls l _ hll)))
          go_wp2
          go_roundw
          case rel => exact ⟨1 + 1, by omega, by go_num, hk1.drewN _, .inl ⟨by have := HMM.out; omega, by rw [← HMM.out]; exact HT1.out, HEQ.out⟩⟩
          case measure => simp [intOf]
        · have hne : ((valB l : Int) != 90) = true := by simp; omega
          have HEQ : Hid _ := heq
          clear hv heq
          go_wp2_with fail
          go_quiet ((go_at_call 97; exact Calls.quiet_of_same (value_calls l _ hll)))
          go_wp2_with fail
          refine (err_sets q L m 3 vP vD vE _ (by exact HT1.out)).mono ?_
          rintro r w2 ⟨rfl, ht2, hk2⟩
          have HT2 : Hid (TextAt w2 q L m 3 vP vD vE) := ht2
          have HK2 : Hid (OneKept w w2 q) := (hk1.drewN _).trans hk2
          clear ht2 hk2
          go_wp2
          go_roundw
          case rel => exact ⟨1 + 1, by omega, by go_num, HK2.out, .inr ⟨3, m, by decide, hm, HT2.out, HEQ.out⟩⟩
          case measure => simp [intOf]
      · obtain ⟨⟨c0, c1, c2⟩, f1, f2⟩ := ht1.cell
        have HT1 : Hid (TextAt w1 q L m c vP vD vE) := ht1
        have HC : Hid (c ≠ 0) := hc
        have hc0 : (c == 0) = false := beq_eq_false_iff_ne.2 hc
        have HEQ : Hid _ := heq
        clear ht1 c0 c1 f1 f2 HM hc heq
        go_wp2_with fail
        go_quiet (fail)
        go_wp2
        go_roundw
        case rel => exact ⟨1 + 1, by omega, by go_num, hk1.drewN _, .inr ⟨c, m, HC.out, hm, HT1.out, HEQ.out⟩⟩
        case measure => simp [intOf]
    · have HM : Hid _ := magic_round q L vP vD vE w wr 2 49 [] rfl hl hrel.out
      have hmg := magic2
      clear hrel
      go_wp2_with fail
      refine (Calls.mono HM.out ?_)
      rintro r w1 ⟨l, hll, rfl, hk1, ⟨m, hm, ht1, hcase⟩ | ⟨c, m, hc, hm, ht1, heq⟩⟩
      · obtain ⟨⟨c0, c1, c2⟩, f1, f2⟩ := ht1.cell
        have HT1 : Hid (TextAt w1 q L m 0 vP vD vE) := ht1
        clear ht1 c0 c1 f1 f2 HM
        rcases hcase with ⟨hv, hm8, heq⟩ | ⟨hv, heq⟩
        · have hne : ((valB l : Int) != 49) = false := by rw [hv]; decide
          have HMM : Hid (m = 8 * (2 + 1)) := hm8
          have HEQ : Hid _ := heq
          clear hv hm8 heq
          go_wp2_with fail
          go_quiet ((go_at_call 97; exact Calls.quiet_of_same (value_calls l _ hll)))
          go_wp2
          go_roundw
          case rel => exact ⟨2 + 1, by omega, by go_num, hk1.drewN _, .inl ⟨by have := HMM.out; omega, by rw [← HMM.out]; exact HT1.out, HEQ.out⟩⟩
          case measure => simp [intOf]
        · have hne : ((valB l : Int) != 49) = true := by simp; omega
          have HEQ : Hid _ := heq
          clear hv heq
          go_wp2_with fail
          go_quiet ((go_at_call 97; exact Calls.quiet_of_same (value_calls l _ hll)))
          go_wp2_with fail
          refine (err_sets q L m 3 vP vD vE _ (by exact HT1.out)).mono ?_
          rintro r w2 ⟨rfl, ht2, hk2⟩
          have HT2 : Hid (TextAt w2 q L m 3 vP vD vE) := ht2
          have HK2 : Hid (OneKept w w2 q) := (hk1.drewN _).trans hk2
          clear ht2 hk2
          go_wp2
          go_roundw
          case rel => exact ⟨2 + 1, by omega, by go_num, HK2.out, .inr ⟨3, m, by decide, hm, HT2.out, HEQ.out⟩⟩
          case measure => simp [intOf]
      · obtain ⟨⟨c0, c1, c2⟩, f1, f2⟩ := ht1.cell
        have HT1 : Hid (TextAt w1 q L m c vP vD vE) := ht1
        have HC : Hid (c ≠ 0) := hc
        have hc0 : (c == 0) = false := beq_eq_false_iff_ne.2 hc
        have HEQ : Hid _ := heq
        clear ht1 c0 c1 f1 f2 HM hc heq
        go_wp2_with fail
        go_quiet (fail)
        go_wp2
        go_roundw
        case rel => exact ⟨2 + 1, by omega, by go_num, hk1.drewN _, .inr ⟨c, m, HC.out, hm, HT1.out, HEQ.out⟩⟩
        case measure => simp [intOf]
    · have HM : Hid _ := hrel.out
      clear hrel
      go_wp2
      go_end0
      exact ⟨rfl, HM.out⟩
end Go.Proofs.YtnpnaglgllcpfaaGreat

/- The text of bytes that a call has made. -/
namespace Go.Proofs.YtnpnaglgllcpfaaGreat
set_option maxRecDepth 100000
open Go.RowKit

theorem conv_own {w : World} {B : Nat} {v : Value} {out : List UInt8} (h : OwnB w B v out) : (convert 37 9 v).run Tryz.prog w = .ok (.string ⟨out.toArray⟩) w := by
  rcases Nat.eq_zero_or_pos out.length with h0 | h0
  · have ho : out = [] := List.eq_nil_of_length_eq_zero h0
    subst ho
    rcases h.2 with ⟨rfl, _⟩ | ⟨g, cap, cur, rfl, _⟩
    · exact run_convert_bytes_nil w 37 5 Tryz.underlying37 Tryz.underlying5 0 0 9 Tryz.underlying9
    · exact run_convert_bytes_back w 37 9 5 ⟨g, 0, none⟩ cap [] Tryz.underlying37 Tryz.underlying5 Tryz.underlying9 (fun j hj => by simp at hj)
  · obtain ⟨g, cp, rfl, _, _, hc⟩ := h.at h0
    refine run_convert_bytes_back w 37 9 5 ⟨g, 0, none⟩ cp out Tryz.underlying37 Tryz.underlying5 Tryz.underlying9 (fun j hj => ?_)
    have hadd : (⟨g, 0, none⟩ : Addr).add j = ⟨g, j, none⟩ := by unfold Addr.add; split <;> simp_all
    rw [hadd, hc j hj]
    simp [List.getD, hj]

theorem conv_drew {w : World} {B : Nat} {v : Value} {out : List UInt8} (h : OwnB w B v out) (n : Nat) : (convert 37 9 v).run Tryz.prog (w.drewN n) = .ok (.string ⟨out.toArray⟩) (w.drewN n) :=
  conv_own (w := w.drewN n) h
end Go.Proofs.YtnpnaglgllcpfaaGreat
