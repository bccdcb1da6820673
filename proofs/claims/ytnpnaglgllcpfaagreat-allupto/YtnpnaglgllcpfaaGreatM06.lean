/-
  Lemmas for the law All: Sb4, Sb5.
-/
import Derived.Test.YtnpnaglgllcpfaaGreatM05
/- What the program's reader of tokens does to memory: a frame's tokens. -/
namespace Go.Proofs.YtnpnaglgllcpfaaGreat
set_option maxRecDepth 100000
open Go.RowKit

/-- How Read of tokens ends. -/
def ToksRAns (w w' : World) (q : Nat) (a : Option Addr) (l : List UInt8) (cap n0 n : Nat) (r : Ending) : Prop :=
  OneKept w w' q ∧ ((∃ c m, rToks n n 0 ((bitsIn l).drop n0) = .error c ∧ c ≠ 0 ∧ m ≤ (bitsIn l).length ∧ r = .returned (.tuple #[.slice none 0 0, .int .i64 c]) ∧ RdrAt w' q a l cap m) ∨
    ∃ acc m v out, rToks n n 0 ((bitsIn l).drop n0) = .ok (acc, (bitsIn l).drop m) ∧ n0 ≤ m ∧ m ≤ (bitsIn l).length ∧ r = .returned (.tuple #[v, .int .i64 0]) ∧ TokRow w' w.heap.size v acc ∧ Tok.expand [] acc = some out ∧ out.length = n ∧ acc.length ≤ 65 ∧ RdrAt w' q a l cap m)

theorem rdr_append {w w2 w3 : World} {q : Nat} {a : Option Addr} {l : List UInt8} {cap n m : Nat} {v : Value} {acc : List Tok} {o1 o2 : Obj} (h0 : RdrAt w q a l cap n) (hrow : TokRow w2 w.heap.size v acc) (hk : OneKept w w2 q) (h2 : RdrAt w2 q a l cap m) (hg : ((w2.alloc o1).alloc o2).grownBy w3 v.ownBlock) :
    OneKept w w3 q ∧ RdrAt w3 q a l cap m ∧ w3.heap[w2.heap.size]? = some o1 ∧ w2.heap.size < w3.heap.size := by
  have hz : ((w2.alloc o1).alloc o2).heap.size = w2.heap.size + 2 := by simp
  have hs2 := hk.size
  have hq := h0.lt
  have hsz : w2.heap.size + 2 ≤ w3.heap.size := by have := hg.size; rw [hz] at this; exact this
  have hown := fun k hk' => World.ownsRow.lt hrow k hk'
  have hblk : ∀ k, k < w2.heap.size → v.ownBlock ≠ some k → w3.heap[k]? = w2.heap[k]? := fun k h1 h2 => by
    rw [hg.block k (by rw [hz]; omega) (fun e => h2 e.symm), Below.heap_alloc (w2.alloc o1) o2 k (by simp; omega), Below.heap_alloc w2 o1 k h1]
  have hkk : OneKept w w3 q := by
    refine ⟨hg.os.trans hk.os, hg.tape.trans hk.tape, hg.output.trans hk.output, by omega, fun k h1 h2 => ?_⟩
    rw [hblk k (by omega) (fun e => by have := (hown k e).1; omega)]
    exact hk.heap k h1 h2
  refine ⟨hkk, h0.kept hkk ?_, ?_, by omega⟩
  · rw [hblk q (by omega) (fun e => by have := (hown q e).1; omega)]
    exact h2.block
  · rw [hg.block _ (by rw [hz]; omega) (fun e => by have := (hown _ e.symm).2; omega), Below.heap_alloc (w2.alloc o1) o2 _ (by simp)]
    exact heap_alloc_new w2 o1

set_option maxHeartbeats 2000000 in
theorem readToks_calls (q : Nat) (a : Option Addr) (l : List UInt8) (cap n0 n : Nat) (w : World) (h : RdrAt w q a l cap n0) (hl : l.length ≤ 4096) (hn0 : n0 ≤ (bitsIn l).length) (h64 : n ≤ 64) :
    Calls Tryz.prog 123 #[.pointer (some ⟨q, 0, none⟩), .int .i64 n] w fun r w' => ToksRAns w w' q a l cap n0 n r := by
  have HR0 : Hid (RdrAt w q a l cap n0) := h
  have hqw := h.lt
  obtain ⟨it, hti, htz0, htz1, htz2⟩ := info_parts infoTok
  clear h
  go_enter Tryz.func123, Tryz.ntmps123
  go_wp2_with fail
  go_loopg [6, 7] (n + 1) (fun g v md wr => ∃ (made : Nat) (acc : List Tok) (m : Nat) (out : List UInt8), md = .int .i64 made ∧ g = n + 1 - made ∧ made ≤ n ∧ acc.length ≤ made ∧ n0 ≤ m ∧ m ≤ (bitsIn l).length ∧ out.length = made ∧ Hid (TokRow wr w.heap.size v acc) ∧ Hid (OneKept w wr q) ∧ Hid (RdrAt wr q a l cap m) ∧ Hid (Tok.expand [] acc = some out) ∧ Hid (rToks n n 0 ((bitsIn l).drop n0) = pre acc (rToks n (n - acc.length) made ((bitsIn l).drop m))))
  case atStart =>
    refine ⟨0, [], n0, [], rfl, rfl, by omega, by simp, Nat.le_refl _, hn0, rfl, World.ownsRow_nil _ _ _ _, OneKept.refl _ _, HR0, rfl, ?_⟩
    show _ = _
    rw [pre_nil]; rfl
  case round =>
    obtain ⟨made, acc, m, out, rfl, hg, hmn, ham, hnm, hml, hol, HROW, HK, HRD, HEX, HEQ⟩ := hrel
    obtain ⟨ao, cp, rfl⟩ := HROW.out.form
    have hsz := HK.out.size
    have HG : Hid (gk = n + 1 - made) := hg
    have HOL : Hid (out.length = made) := hol
    clear hg hol
    by_cases hlt : made < n
    · have hsub : (n : Int) - (made : Int) = ((n - made : Nat) : Int) := by omega
      have HSUB : Hid _ := hsub
      clear hsub
      go_wp2_with fail
      rw [HSUB.out]
      refine (readOne_calls q a l cap m made (n - made) _ _ HRD.out hl hml rfl).mono ?_
      rintro r w2 ⟨hk2, hans⟩
      have hs2 := hk2.size
      have HROW2 : Hid (TokRow w2 w.heap.size (.slice ao acc.length cp) acc) := TokRow.kept HROW.out hk2 hqw
      have HK2 : Hid (OneKept w w2 q) := HK.out.trans hk2
      rcases hans with ⟨c, m', hrt, hc, hm', rfl, hr2⟩ | ⟨t, m', hrt, hmm, hm', rfl, hr2⟩
      · have HR2 : Hid (RdrAt w2 q a l cap m') := hr2
        have HC : Hid (c ≠ 0) := hc
        have hcb : (c != 0) = true := by simpa using hc
        have HER : Hid (rToks n n 0 ((bitsIn l).drop n0) = .error c) := by
          show _ = _
          rw [HEQ.out, show n - acc.length = (n - acc.length - 1) + 1 by omega]
          exact rToks_error acc hlt hrt
        clear hr2 hc hrt hk2
        go_wp2
        go_ret2
        exact ⟨HK2.out.alloc _, .inl ⟨c, m', HER.out, HC.out, hm', rfl, HR2.out.below ((Below.refl _ _).alloc (Nat.le_refl _) _)⟩⟩
      · obtain ⟨hexp2, hsl, ht1, ht2', heq2⟩ := fr_step_ok hlt h64 ham HEX.out HOL.out HEQ.out hrt
        have HR2 : Hid (RdrAt w2 q a l cap m') := hr2
        have HEX2 : Hid (Tok.expand [] (acc ++ [t]) = some (Tok.step out t)) := hexp2
        have HSL : Hid (((Tok.step out t).length : Int) = made + t.len) := hsl
        have HEQ2 : Hid _ := heq2
        clear hr2 hk2 hrt hexp2 hsl heq2
        obtain ⟨tl, td, tb⟩ := t
        simp only at ht1 ht2'
        go_wp2_with (at_builtin; refine wpList_append_own _ rfl _ _ 32 rfl w.heap.size 42 it (.agg #[.int .i64 0, .int .i64 0, .int .i64 0]) 3 24 Tryz.underlying32 hti htz0 htz1 htz2 rfl (by decide) _ _ _ rfl ((TokRow.alloc HROW2.out _).alloc _) ⟨w2.heap.size + 1, 0, none⟩ 1 1 [.int .i64 tl, .int .i64 td, .int .i64 tb] rfl rfl ?b1 ?b2 ?b3 ?b4 ?b5 ?_)
        case b1 => intro j u hj; exact cell_new3' _ _ (by simp) _ _ _ _ j u hj
        case b2 => intro u hu; simp at hu; rcases hu with rfl | rfl | rfl <;> rfl
        case b3 => unfold maxLen; omega
        case b4 => omega
        case b5 => first | omega | (simp; omega)
        intro v' w3 hown' hgrow _
        obtain ⟨hk3, hr3, hx3, hz3⟩ := rdr_append HR0.out HROW2.out HK2.out HR2.out hgrow
        have HK3 : Hid (OneKept w w3 q) := hk3
        have HR3 : Hid (RdrAt w3 q a l cap m') := hr3
        have HO3 : Hid (TokRow w3 w.heap.size v' (acc ++ [⟨tl, td, tb⟩])) := by
          show w3.ownsRow _ _ _ _ _ _
          rw [cellsT_snoc, List.length_append]
          exact hown'
        obtain ⟨⟨b0, b1, b2⟩, _⟩ := trio_cell hx3
        clear hown' hgrow hk3 hr3 hx3
        go_wp2
        obtain ⟨k, hkk⟩ : ∃ k : Nat, (made : Int) + tl = (k : Int) := ⟨made + tl.toNat, by omega⟩
        have hk2 : k = made + tl.toNat := by omega
        rw [hkk]
        go_roundg (n + 1 - k)
        case measure => have := HG.out; omega
        case rel =>
          refine ⟨k, acc ++ [⟨tl, td, tb⟩], m', Tok.step out ⟨tl, td, tb⟩, rfl, rfl, by omega, by simp; omega, by omega, hm', ?_, HO3, HK3, HR3, HEX2, ?_⟩
          · have := HSL.out
            omega
          · show _ = _
            rw [hk2]; exact HEQ2.out
    · have hmade : made = n := by omega
      have HM : Hid (made = n) := hmade
      have HTK : Hid (rToks n n 0 ((bitsIn l).drop n0) = .ok (acc, (bitsIn l).drop m)) := by show _ = _; rw [HEQ.out]; exact rToks_done acc (by omega)
      clear hmade
      go_wp2
      go_ret2
      exact ⟨HK.out, .inr ⟨acc, m, _, out, HTK.out, hnm, hml, rfl, HROW.out, HEX.out, by rw [HOL.out, HM.out], by omega, HRD.out⟩⟩
end Go.Proofs.YtnpnaglgllcpfaaGreat

/- What the program's reader of frames does to memory: the sum, a frame. -/
namespace Go.Proofs.YtnpnaglgllcpfaaGreat
set_option maxRecDepth 100000
open Go.RowKit

theorem OwnB.one {w w' : World} {B q : Nat} {v : Value} {out : List UInt8} (h : OwnB w B v out) (hk : OneKept w w' q) (hq : q < B) : OwnB w' B v out := by
  refine World.ownsRow.kept h (row := some q) ⟨hk.os, hk.tape, hk.output, hk.size, fun k hk' hne => hk.heap k hk' (fun e => hne (by rw [e]))⟩ ?_
  rcases hv : v.ownBlock with _ | k
  · exact .inl rfl
  · refine .inr (fun e => ?_)
    have := (World.ownsRow.lt h k hv).1
    simp at e
    omega
theorem OwnB.bytes {w : World} {B : Nat} {a : Option Addr} {cap : Nat} {out : List UInt8} (h : OwnB w B (.slice a out.length cap) out) : BytesAt w a out := by
  rcases Nat.eq_zero_or_pos out.length with h0 | h0
  · exact .inl (List.eq_nil_of_length_eq_zero h0)
  · obtain ⟨g, c, hv, _, _, hc⟩ := h.at h0
    simp at hv
    exact .inr ⟨g, 0, hv.1, fun i hi => by rw [Nat.zero_add]; exact hc i hi⟩

theorem row_le {w : World} {B B' n z : Nat} {e : TypeId} {v : Value} {xs : List Value} (h : w.ownsRow B e z v n xs) (hb : B' ≤ B) : w.ownsRow B' e z v n xs := by
  refine ⟨h.1, ?_⟩
  rcases h.2 with h' | ⟨g, cap, cur, h1, h2, r⟩
  · exact .inl h'
  · exact .inr ⟨g, cap, cur, h1, Nat.le_trans hb h2, r⟩

/-- What two bytes tell. -/
def sumAt (L : List Bool) (n : Nat) : Int := (valB ((L.drop n).take 8) : Int) + 256 * (valB ((L.drop (n + 8)).take 8) : Int)

/-- How readSum ends. -/
def SumRAns (w w' : World) (q : Nat) (a : Option Addr) (l : List UInt8) (cap n : Nat) (T : Int) (r : Ending) : Prop :=
  OneKept w w' q ∧ (((bitsIn l).length < n + 16 ∧ r = .returned (.int .i64 4) ∧ ∃ m, m ≤ (bitsIn l).length ∧ RdrAt w' q a l cap m) ∨
    (n + 16 ≤ (bitsIn l).length ∧ RdrAt w' q a l cap (n + 16) ∧ ((sumAt (bitsIn l) n ≠ T ∧ r = .returned (.int .i64 8)) ∨ (sumAt (bitsIn l) n = T ∧ r = .returned (.int .i64 0)))))

set_option maxHeartbeats 1000000 in
theorem readSum_calls (q B : Nat) (a pa : Option Addr) (l out : List UInt8) (cap pc n : Nat) (w : World) (h : RdrAt w q a l cap n) (hl : l.length ≤ 4096) (hn : n ≤ (bitsIn l).length) (ho : OwnB w B (.slice pa out.length pc) out) (hq : q < B) (hol : out.length ≤ 64) :
    Calls Tryz.prog 125 #[.pointer (some ⟨q, 0, none⟩), .slice pa out.length pc] w fun r w' => SumRAns w w' q a l cap n (Plain.total out) r := by
  have HR : Hid (RdrAt w q a l cap n) := h
  have HO : Hid (OwnB w B (.slice pa out.length pc) out) := ho
  clear h ho
  go_enter Tryz.func125, Tryz.ntmps125
  go_wp2_with fail
  refine (byteR_calls q a l cap n _ HR.out hl hn).mono ?_
  rintro r w1 ⟨ho1, ⟨h1, rfl, m, hm, hr1⟩ | ⟨h1, rfl, hr1⟩⟩
  · have HO1 : Hid (OneKept w w1 q) := ho1
    have HR1 : Hid (RdrAt w1 q a l cap m) := hr1
    have hs : (bitsIn l).length < n + 16 := by omega
    clear ho1 hr1
    go_wp2
    go_ret
    exact ⟨HO1.out, .inl ⟨hs, rfl, m, hm, HR1.out⟩⟩
  · have HO1 : Hid (OneKept w w1 q) := ho1
    have HR1 : Hid (RdrAt w1 q a l cap (n + 8)) := hr1
    clear ho1 hr1
    rw [digB_zero]
    go_wp2_with fail
    refine (byteR_calls q a l cap (n + 8) _ HR1.out hl h1).mono ?_
    rintro r w2 ⟨ho2, ⟨h2, rfl, m, hm, hr2⟩ | ⟨h2, rfl, hr2⟩⟩
    · have HO2 : Hid (OneKept w w2 q) := HO1.out.trans ho2
      have HR2 : Hid (RdrAt w2 q a l cap m) := hr2
      have hs : (bitsIn l).length < n + 16 := by omega
      clear ho2 hr2
      go_wp2
      go_ret
      exact ⟨HO2.out, .inl ⟨hs, rfl, m, hm, HR2.out⟩⟩
    · have HO2 : Hid (OneKept w w2 q) := HO1.out.trans ho2
      have HR2 : Hid (RdrAt w2 q a l cap (n + 16)) := hr2
      have HB2 : Hid (BytesAt w2 pa out) := (HO.out.one HO2.out hq).bytes
      have hx := valB_byte (((bitsIn l).drop n).take 8) (by rw [List.length_take]; omega)
      have hy := valB_byte (((bitsIn l).drop (n + 8)).take 8) (by rw [List.length_take]; omega)
      have HS : Hid (sumAt (bitsIn l) n = (valB (((bitsIn l).drop n).take 8) : Int) + 256 * (valB (((bitsIn l).drop (n + 8)).take 8) : Int)) := rfl
      clear ho2 hr2
      rw [digB_zero]
      generalize valB (((bitsIn l).drop n).take 8) = x at *
      generalize valB (((bitsIn l).drop (n + 8)).take 8) = y at *
      generalize hTT : Plain.total out = T at *
      have HTT : Hid (Plain.total out = T) := hTT
      clear hTT
      go_wp2_with fail
      refine (of_calls pa out pc w2 (by omega) HB2.out).mono ?_
      rintro r w3 ⟨rfl, rfl⟩
      rw [HTT.out]
      by_cases heq : (x : Int) + 256 * (y : Int) = T
      · have hb : ((x : Int) + 256 * (y : Int) != T) = false := by simpa using heq
        have HE : Hid (sumAt (bitsIn l) n = Plain.total out) := by show _ = _; rw [HS.out, heq, HTT.out]
        clear heq
        go_wp2
        go_ret
        exact ⟨HO2.out, .inr ⟨h2, HR2.out, .inr ⟨HE.out, rfl⟩⟩⟩
      · have hb : ((x : Int) + 256 * (y : Int) != T) = true := by simpa using heq
        have HE : Hid (sumAt (bitsIn l) n ≠ Plain.total out) := by show _ ≠ _; rw [HS.out, HTT.out]; exact heq
        clear heq
        go_wp2
        go_ret
        exact ⟨HO2.out, .inr ⟨h2, HR2.out, .inl ⟨HE.out, rfl⟩⟩⟩

/-- A frame or the end off some bits; so or so as a short frame stood ahead. -/
def rStep (short : Bool) (R : List Bool) : Except Int (Option (List Tok) × List Bool) :=
  match rNum 5 0 R with
  | .error c => .error c
  | .ok (v, R1) =>
    if v = 1 then (if padB R1 = false then .error 7 else .ok (none, R1.drop (R1.length % 8)))
    else if 64 < v - 1 ∨ short = true then .error 5
    else match rFrame (v - 1) R1 with
      | .error c => .error c
      | .ok (ts, R2) => .ok (some ts, R2)
theorem rStep_num {short : Bool} {R : List Bool} {c : Int} (h : rNum 5 0 R = .error c) : rStep short R = .error c := by simp only [rStep, h]
theorem rStep_long {short : Bool} {R R1 : List Bool} {v : Nat} (h : rNum 5 0 R = .ok (v, R1)) (hv : v ≠ 1) (hb : 64 < v - 1 ∨ short = true) : rStep short R = .error 5 := by
  simp only [rStep, h, if_neg hv, if_pos hb]
theorem rStep_pad {short : Bool} {R R1 : List Bool} (h : rNum 5 0 R = .ok (1, R1)) (hp : padB R1 = false) : rStep short R = .error 7 := by
  simp only [rStep, h, hp, if_true]
theorem rStep_end {short : Bool} {L R : List Bool} {m : Nat} (h : rNum 5 0 R = .ok (1, L.drop m)) (hp : padB (L.drop m) = true) : rStep short R = .ok (none, L.drop (byteEnd L m)) := by
  simp only [rStep, h, hp, if_true]
  rw [if_neg (by simp), drop_byteEnd]
theorem rStep_err {short : Bool} {R R1 : List Bool} {v : Nat} {c : Int} (h : rNum 5 0 R = .ok (v, R1)) (hv : v ≠ 1) (hb : ¬ (64 < v - 1 ∨ short = true)) (hf : rFrame (v - 1) R1 = .error c) : rStep short R = .error c := by
  simp only [rStep, h, if_neg hv, if_neg hb, hf]
theorem rStep_ok {short : Bool} {R R1 R2 : List Bool} {v : Nat} {ts : List Tok} (h : rNum 5 0 R = .ok (v, R1)) (hv : v ≠ 1) (hb : ¬ (64 < v - 1 ∨ short = true)) (hf : rFrame (v - 1) R1 = .ok (ts, R2)) : rStep short R = .ok (some ts, R2) := by
  simp only [rStep, h, if_neg hv, if_neg hb, hf]

/-- How readFrame ends. -/
def FrameRAns (w w' : World) (q : Nat) (a : Option Addr) (l : List UInt8) (cap n : Nat) (short : Bool) (r : Ending) : Prop :=
  OneKept w w' q ∧ ((∃ c m, rStep short ((bitsIn l).drop n) = .error c ∧ c ≠ 0 ∧ m ≤ (bitsIn l).length ∧ r = .returned (.tuple #[.agg #[.slice none 0 0, .slice none 0 0], .int .i64 c]) ∧ RdrAt w' q a l cap m) ∨
    (∃ m, rStep short ((bitsIn l).drop n) = .ok (none, (bitsIn l).drop m) ∧ n < m ∧ m ≤ (bitsIn l).length ∧ m % 8 = 0 ∧ r = .returned (.tuple #[.agg #[.slice none 0 0, .slice none 0 0], .int .i64 0]) ∧ RdrAt w' q a l cap m) ∨
    ∃ ts out m vT vB, rStep short ((bitsIn l).drop n) = .ok (some ts, (bitsIn l).drop m) ∧ n < m ∧ m ≤ (bitsIn l).length ∧ m % 8 = 0 ∧ Tok.expand [] ts = some out ∧ 1 ≤ out.length ∧ out.length ≤ 64 ∧ ts.length ≤ 65 ∧ r = .returned (.tuple #[.agg #[vT, vB], .int .i64 0]) ∧ TokRow w' w.heap.size vT ts ∧ OwnB w' w.heap.size vB out ∧ RdrAt w' q a l cap m)

theorem pair_cell {w : World} {q : Nat} {a b : Value} {t : TypeId} (h : w.heap[q]? = some (.cells #[a, b] t (0, 0))) :
    (w.cell? ⟨q, 0, none⟩ = some a ∧ w.cell? ⟨q, 1, none⟩ = some b) ∧ (w.frozen? ⟨q, 0, none⟩ = false ∧ w.frozen? ⟨q, 1, none⟩ = false) := by
  simp [World.cell?, World.frozen?, h]

/-- What a box for a struct of two cells holds at the end, and what was there. -/
theorem boxF_fin {w w3 : World} {q : Nat} {o : Obj} {u v : Value} {t : TypeId} {a : Option Addr} {l : List UInt8} {cap n m : Nat} (h0 : RdrAt w q a l cap n) (hk : OneKept (w.alloc o) w3 q) (hx : w3.heap[w.heap.size]? = some (.cells #[u, v] t (0, 0))) (h3 : RdrAt w3 q a l cap m) (x y : Value) :
    (((w3.setCell ⟨w.heap.size, 0, none⟩ x).setCell ⟨w.heap.size, 1, none⟩ y).cell? ⟨w.heap.size, 0, none⟩ = some x ∧
     ((w3.setCell ⟨w.heap.size, 0, none⟩ x).setCell ⟨w.heap.size, 1, none⟩ y).cell? ⟨w.heap.size, 1, none⟩ = some y) ∧
    OneKept w ((w3.setCell ⟨w.heap.size, 0, none⟩ x).setCell ⟨w.heap.size, 1, none⟩ y) q ∧
    RdrAt ((w3.setCell ⟨w.heap.size, 0, none⟩ x).setCell ⟨w.heap.size, 1, none⟩ y) q a l cap m := by
  have hb := set_block (i := 1) (set_block (i := 0) hx x) y
  have hq := h0.lt
  have hkk : OneKept w ((w3.setCell ⟨w.heap.size, 0, none⟩ x).setCell ⟨w.heap.size, 1, none⟩ y) q := by
    refine ⟨hk.os, hk.tape, hk.output, ?_, fun k h1 h2 => ?_⟩
    · have := hk.size
      simp only [set_size]
      simp at this
      omega
    · rw [set_other _ (by omega), set_other _ (by omega), hk.heap k (by simp; omega) h2]
      exact Below.heap_alloc w o k h1
  refine ⟨?_, hkk, h0.kept hkk ?_⟩
  · simp [World.cell?, hb]
  · rw [set_other _ (by omega), set_other _ (by omega)]
    exact h3.block

set_option maxHeartbeats 2000000 in
theorem readFrame_calls (q : Nat) (a : Option Addr) (l : List UInt8) (cap n : Nat) (short : Bool) (w : World) (h : RdrAt w q a l cap n) (hl : l.length ≤ 4096) (hn : n ≤ (bitsIn l).length) :
    Calls Tryz.prog 117 #[.pointer (some ⟨q, 0, none⟩), .bool short] w fun r w' => FrameRAns w w' q a l cap n short r := by
  have hlen := bitsIn_length l
  have HR0 : Hid (RdrAt w q a l cap n) := h
  have hq := h.lt
  have hqn : w.heap.size ≠ q := by omega
  have HR : Hid (RdrAt (w.alloc (.cells #[.slice none 0 0, .slice none 0 0] 137)) q a l cap n) := h.below ((Below.refl _ _).alloc (Nat.le_refl _) _)
  clear h
  go_enter Tryz.func117, Tryz.ntmps117
  go_wp2_with fail
  refine (numberR_calls q a l cap n 5 _ HR.out hl hn (by decide)).mono ?_
  rintro r w1 ⟨ho, ⟨c, m, hnum, hc, hm, rfl, hr1⟩ | ⟨v, m, hnum, hm1, hm2, hv1, hv2, rfl, hr1⟩⟩
  · have HE : Hid (rStep short ((bitsIn l).drop n) = .error c) := rStep_num hnum
    have HO : Hid (OneKept _ w1 q) := ho
    have HR1 : Hid (RdrAt w1 q a l cap m) := hr1
    have HC : Hid (c ≠ 0) := hc
    have hcb : (c != 0) = true := by simpa using hc
    clear ho hr1 hnum hc
    have HX1 := tok_box HO.out hqn
    obtain ⟨⟨b0, b1⟩, g0, g1⟩ := pair_cell HX1
    have hzz : w.heap.size < w1.heap.size := (Array.getElem?_eq_some_iff.1 HX1).1
    obtain ⟨r0, r1, r2⟩ := boxF_fin HR0.out HO.out HX1 HR1.out (.slice none 0 0) (.slice none 0 0)
    have R0 : Hid _ := r0
    have R1 : Hid (OneKept _ _ _) := r1
    have R2 : Hid (RdrAt _ _ _ _ _ _) := r2
    clear HX1 r0 r1 r2
    go_wp2
    obtain ⟨r0, r1⟩ := R0.out
    refine bodyPost_ret (v := .tuple #[.agg #[.slice none 0 0, .slice none 0 0], .int .i64 c]) (by simp [results, Tryz.results117, go_sem, r0, r1]) rfl ⟨R1.out, .inl ⟨c, m, HE.out, HC.out, hm, rfl, R2.out⟩⟩
  · have HN1 : Hid (rNum 5 0 ((bitsIn l).drop n) = .ok (v, (bitsIn l).drop m)) := hnum
    have HO : Hid (OneKept _ w1 q) := ho
    have HR1 : Hid (RdrAt w1 q a l cap m) := hr1
    have hz1 : w.heap.size + 1 ≤ w1.heap.size := by have := ho.size; simpa using this
    clear ho hr1 hnum
    by_cases hv : v = 1
    · subst hv
      go_wp2_with fail
      refine (readToks_calls q a l cap m 0 _ HR1.out hl hm2 (by omega)).mono ?_
      rintro r w2 ⟨ho2, ⟨c, m', hx, hc, hm', rfl, hr2⟩ | ⟨acc, m', vT, out, hx, hmm, hm', rfl, hrow, hex, hol, hal, hr2⟩⟩
      · exact absurd hx (by simp [rToks])
      · have hme : m' = m := by
          simp [rToks] at hx
          have := hx.2
          omega
        subst hme
        have HO2 : Hid (OneKept _ w2 q) := HO.out.trans ho2
        have HR2 : Hid (RdrAt w2 q a l cap m') := hr2
        obtain ⟨ao, cp, rfl⟩ := hrow.form
        clear ho2 hr2 hx hrow hex hol
        go_wp2_with fail
        refine (restR_calls q a l cap m' _ HR2.out hl hm2).mono ?_
        rintro r w3 ⟨ho3, ⟨hpad, rfl, m3, hm3, hr3⟩ | ⟨hpad, rfl, hbe, hr3⟩⟩
        · have HE : Hid (rStep short ((bitsIn l).drop n) = .error 7) := rStep_pad HN1.out hpad
          have HO3 : Hid (OneKept _ w3 q) := HO2.out.trans ho3
          have HR3 : Hid (RdrAt w3 q a l cap m3) := hr3
          clear ho3 hr3 hpad
          have HX1 := tok_box HO3.out hqn
          obtain ⟨⟨b0, b1⟩, g0, g1⟩ := pair_cell HX1
          have hzz : w.heap.size < w3.heap.size := (Array.getElem?_eq_some_iff.1 HX1).1
          obtain ⟨r0, r1, r2⟩ := boxF_fin HR0.out HO3.out HX1 HR3.out (.slice none 0 0) (.slice none 0 0)
          have R0 : Hid _ := r0
          have R1 : Hid (OneKept _ _ _) := r1
          have R2 : Hid (RdrAt _ _ _ _ _ _) := r2
          clear HX1 r0 r1 r2
          go_wp2
          obtain ⟨r0, r1⟩ := R0.out
          refine bodyPost_ret (v := .tuple #[.agg #[.slice none 0 0, .slice none 0 0], .int .i64 7]) (by simp [results, Tryz.results117, go_sem, r0, r1]) rfl ⟨R1.out, .inl ⟨7, m3, HE.out, by decide, hm3, rfl, R2.out⟩⟩
        · have HE : Hid (rStep short ((bitsIn l).drop n) = .ok (none, (bitsIn l).drop (byteEnd (bitsIn l) m'))) := rStep_end HN1.out hpad
          have H8 : Hid (byteEnd (bitsIn l) m' % 8 = 0) := by show _ = _; unfold byteEnd; omega
          have HO3 : Hid (OneKept _ w3 q) := HO2.out.trans ho3
          have HR3 : Hid (RdrAt w3 q a l cap (byteEnd (bitsIn l) m')) := hr3
          clear ho3 hr3 hpad
          have HX1 := tok_box HO3.out hqn
          obtain ⟨⟨b0, b1⟩, g0, g1⟩ := pair_cell HX1
          have hzz : w.heap.size < w3.heap.size := (Array.getElem?_eq_some_iff.1 HX1).1
          obtain ⟨r0, r1, r2⟩ := boxF_fin HR0.out HO3.out HX1 HR3.out (.slice none 0 0) (.slice none 0 0)
          have R0 : Hid _ := r0
          have R1 : Hid (OneKept _ _ _) := r1
          have R2 : Hid (RdrAt _ _ _ _ _ _) := r2
          clear HX1 r0 r1 r2
          go_wp2
          obtain ⟨r0, r1⟩ := R0.out
          refine bodyPost_ret (v := .tuple #[.agg #[.slice none 0 0, .slice none 0 0], .int .i64 0]) (by simp [results, Tryz.results117, go_sem, r0, r1]) rfl ⟨R1.out, .inr (.inl ⟨_, HE.out, by unfold byteEnd; omega, hbe, H8.out, rfl, R2.out⟩)⟩
    · have hv2' : 1 < (v : Int) := by omega
      by_cases hbad : 64 < v - 1 ∨ short = true
      · have HE : Hid (rStep short ((bitsIn l).drop n) = .error 5) := rStep_long HN1.out hv hbad
        by_cases h64 : 64 < v - 1
        · have h64' : 64 < (v : Int) - 1 := by omega
          clear hbad h64
          have HX1 := tok_box HO.out hqn
          obtain ⟨⟨b0, b1⟩, g0, g1⟩ := pair_cell HX1
          have hzz : w.heap.size < w1.heap.size := (Array.getElem?_eq_some_iff.1 HX1).1
          obtain ⟨r0, r1, r2⟩ := boxF_fin HR0.out HO.out HX1 HR1.out (.slice none 0 0) (.slice none 0 0)
          have R0 : Hid _ := r0
          have R1 : Hid (OneKept _ _ _) := r1
          have R2 : Hid (RdrAt _ _ _ _ _ _) := r2
          clear HX1 r0 r1 r2
          go_wp2
          obtain ⟨r0, r1⟩ := R0.out
          refine bodyPost_ret (v := .tuple #[.agg #[.slice none 0 0, .slice none 0 0], .int .i64 5]) (by simp [results, Tryz.results117, go_sem, r0, r1]) rfl ⟨R1.out, .inl ⟨5, m, HE.out, by decide, hm2, rfl, R2.out⟩⟩
        · have hs : short = true := by rcases hbad with h | h; exact absurd h h64; exact h
          subst hs
          have h64' : (v : Int) - 1 ≤ 64 := by omega
          have h0' : 0 < (v : Int) - 1 := by omega
          clear hbad h64
          have HX1 := tok_box HO.out hqn
          obtain ⟨⟨b0, b1⟩, g0, g1⟩ := pair_cell HX1
          have hzz : w.heap.size < w1.heap.size := (Array.getElem?_eq_some_iff.1 HX1).1
          obtain ⟨r0, r1, r2⟩ := boxF_fin HR0.out HO.out HX1 HR1.out (.slice none 0 0) (.slice none 0 0)
          have R0 : Hid _ := r0
          have R1 : Hid (OneKept _ _ _) := r1
          have R2 : Hid (RdrAt _ _ _ _ _ _) := r2
          clear HX1 r0 r1 r2
          go_wp2
          obtain ⟨r0, r1⟩ := R0.out
          refine bodyPost_ret (v := .tuple #[.agg #[.slice none 0 0, .slice none 0 0], .int .i64 5]) (by simp [results, Tryz.results117, go_sem, r0, r1]) rfl ⟨R1.out, .inl ⟨5, m, HE.out, by decide, hm2, rfl, R2.out⟩⟩
      · have hs : short = false := by cases short; rfl; exact absurd (.inr rfl) hbad
        subst hs
        have HBAD : Hid _ := hbad
        have h64' : (v : Int) - 1 ≤ 64 := by omega
        have h0' : 0 < (v : Int) - 1 := by omega
        have hcast : (v : Int) - 1 = ((v - 1 : Nat) : Int) := by omega
        have HCA : Hid ((v : Int) - 1 = ((v - 1 : Nat) : Int)) := hcast
        clear hbad hcast
        go_wp2_with fail
        rw [HCA.out]
        refine (readToks_calls q a l cap m (v - 1) _ HR1.out hl hm2 (by omega)).mono ?_
        rintro r w2 ⟨ho2, ⟨c, m', hx, hc, hm', rfl, hr2⟩ | ⟨ts, m', vT, out, hx, hmm, hm', rfl, hrow, hex, hol, hal, hr2⟩⟩
        · have HE : Hid (rStep false ((bitsIn l).drop n) = .error c) := rStep_err HN1.out hv HBAD.out (rFrame_toks hx)
          have HO2 : Hid (OneKept _ w2 q) := HO.out.trans ho2
          have HR2 : Hid (RdrAt w2 q a l cap m') := hr2
          have HC : Hid (c ≠ 0) := hc
          have hcb : (c != 0) = true := by simpa using hc
          clear ho2 hr2 hx hc
          have HX1 := tok_box HO2.out hqn
          obtain ⟨⟨b0, b1⟩, g0, g1⟩ := pair_cell HX1
          have hzz : w.heap.size < w2.heap.size := (Array.getElem?_eq_some_iff.1 HX1).1
          obtain ⟨r0, r1, r2⟩ := boxF_fin HR0.out HO2.out HX1 HR2.out (.slice none 0 0) (.slice none 0 0)
          have R0 : Hid _ := r0
          have R1 : Hid (OneKept _ _ _) := r1
          have R2 : Hid (RdrAt _ _ _ _ _ _) := r2
          clear HX1 r0 r1 r2
          go_wp2
          obtain ⟨r0, r1⟩ := R0.out
          refine bodyPost_ret (v := .tuple #[.agg #[.slice none 0 0, .slice none 0 0], .int .i64 c]) (by simp [results, Tryz.results117, go_sem, r0, r1]) rfl ⟨R1.out, .inl ⟨c, m', HE.out, HC.out, hm', rfl, R2.out⟩⟩
        · have HTK : Hid (rToks (v - 1) (v - 1) 0 ((bitsIn l).drop m) = .ok (ts, (bitsIn l).drop m')) := hx
          have HO2 : Hid (OneKept _ w2 q) := HO.out.trans ho2
          have HR2 : Hid (RdrAt w2 q a l cap m') := hr2
          have HEX : Hid (Tok.expand [] ts = some out) := hex
          have HOL : Hid (out.length = v - 1) := hol
          have hs2 := ho2.size
          have HROW2 : Hid (TokRow w2 w1.heap.size vT ts) := hrow
          obtain ⟨ao, cp, rfl⟩ := hrow.form
          clear ho2 hr2 hx hrow hex hol
          go_wp2_with fail
          refine (restR_calls q a l cap m' _ HR2.out hl hm').mono ?_
          rintro r w3 ⟨ho3, ⟨hpad, rfl, m3, hm3, hr3⟩ | ⟨hpad, rfl, hbe, hr3⟩⟩
          · have HE : Hid (rStep false ((bitsIn l).drop n) = .error 7) := rStep_err HN1.out hv HBAD.out (rFrame_pad HTK.out hpad)
            have HO3 : Hid (OneKept _ w3 q) := HO2.out.trans ho3
            have HR3 : Hid (RdrAt w3 q a l cap m3) := hr3
            clear ho3 hr3 hpad
            have HX1 := tok_box HO3.out hqn
            obtain ⟨⟨b0, b1⟩, g0, g1⟩ := pair_cell HX1
            have hzz : w.heap.size < w3.heap.size := (Array.getElem?_eq_some_iff.1 HX1).1
            obtain ⟨r0, r1, r2⟩ := boxF_fin HR0.out HO3.out HX1 HR3.out (.slice none 0 0) (.slice none 0 0)
            have R0 : Hid _ := r0
            have R1 : Hid (OneKept _ _ _) := r1
            have R2 : Hid (RdrAt _ _ _ _ _ _) := r2
            clear HX1 r0 r1 r2
            go_wp2
            obtain ⟨r0, r1⟩ := R0.out
            refine bodyPost_ret (v := .tuple #[.agg #[.slice none 0 0, .slice none 0 0], .int .i64 7]) (by simp [results, Tryz.results117, go_sem, r0, r1]) rfl ⟨R1.out, .inl ⟨7, m3, HE.out, by decide, hm3, rfl, R2.out⟩⟩
          · have HPAD : Hid (padB ((bitsIn l).drop m') = true) := hpad
            have hmb : m' ≤ byteEnd (bitsIn l) m' := by unfold byteEnd; omega
            have H8 : Hid (byteEnd (bitsIn l) m' % 8 = 0) := by show _ = _; unfold byteEnd; omega
            have HO3 : Hid (OneKept _ w3 q) := HO2.out.trans ho3
            have HR3 : Hid (RdrAt w3 q a l cap (byteEnd (bitsIn l) m')) := hr3
            have HROW3 : Hid (TokRow w3 w1.heap.size (.slice ao ts.length cp) ts) := TokRow.kept HROW2.out ho3 (by omega)
            have hs3 := ho3.size
            clear ho3 hr3 hpad
            generalize hp : byteEnd (bitsIn l) m' = p at *
            have HP : Hid (byteEnd (bitsIn l) m' = p) := hp
            clear hp
            go_wp2_with fail
            refine (expand_calls ao ts cp w3 (by omega) (TokRow.toks HROW3.out)).mono ?_
            rintro r w4 ⟨hb4, ⟨hnone, _⟩ | ⟨out', vB, hex', hol', rfl, hown4⟩⟩
            · exact absurd (HEX.out.symm.trans hnone) (by simp)
            · have hoo : out' = out := by have := HEX.out.symm.trans hex'; simpa using this.symm
              subst hoo
              have hs4 := hb4.size
              have HO4 : Hid (OneKept (w.alloc (.cells #[.slice none 0 0, .slice none 0 0] 137)) w4 q) := HO3.out.trans ⟨hb4.os, hb4.tape, hb4.output, hb4.size, fun k hk _ => hb4.block k hk⟩
              have HR4 : Hid (RdrAt w4 q a l cap p) := HR3.out.below hb4
              have HROW4 : Hid (TokRow w4 w1.heap.size (.slice ao ts.length cp) ts) := World.ownsRow.kept HROW3.out (row := none) ⟨hb4.os, hb4.tape, hb4.output, hb4.size, fun k hk _ => hb4.block k hk⟩ (by cases (Value.slice ao ts.length cp).ownBlock <;> simp)
              have HOW4 : Hid (OwnB w4 w3.heap.size vB out') := hown4
              obtain ⟨bo, bp, rfl⟩ := hown4.form
              clear hb4 hown4 hex'
              go_wp2_with fail
              refine (readSum_calls q w3.heap.size a bo l out' cap bp p _ HR4.out hl hbe HOW4.out (by omega) hol').mono ?_
              rintro r w5 ⟨ho5, ⟨hsh, rfl, m5, hm5, hr5⟩ | ⟨hsh, hr5, ⟨hne, rfl⟩ | ⟨heq, rfl⟩⟩⟩
              · have HE : Hid (rStep false ((bitsIn l).drop n) = .error 4) := rStep_err HN1.out hv HBAD.out (rFrame_short HTK.out HPAD.out (by rw [HP.out]; exact hsh))
                have HO5 : Hid (OneKept _ w5 q) := HO4.out.trans ho5
                have HR5 : Hid (RdrAt w5 q a l cap m5) := hr5
                clear ho5 hr5
                have HX1 := tok_box HO5.out hqn
                obtain ⟨⟨b0, b1⟩, g0, g1⟩ := pair_cell HX1
                have hzz : w.heap.size < w5.heap.size := (Array.getElem?_eq_some_iff.1 HX1).1
                obtain ⟨r0, r1, r2⟩ := boxF_fin HR0.out HO5.out HX1 HR5.out (.slice none 0 0) (.slice none 0 0)
                have R0 : Hid _ := r0
                have R1 : Hid (OneKept _ _ _) := r1
                have R2 : Hid (RdrAt _ _ _ _ _ _) := r2
                clear HX1 r0 r1 r2
                go_wp2
                obtain ⟨r0, r1⟩ := R0.out
                refine bodyPost_ret (v := .tuple #[.agg #[.slice none 0 0, .slice none 0 0], .int .i64 4]) (by simp [results, Tryz.results117, go_sem, r0, r1]) rfl ⟨R1.out, .inl ⟨4, m5, HE.out, by decide, hm5, rfl, R2.out⟩⟩
              · have HE : Hid (rStep false ((bitsIn l).drop n) = .error 8) := rStep_err HN1.out hv HBAD.out (rFrame_sum HTK.out HPAD.out (by rw [HP.out]; exact hsh) HEX.out (by rw [HP.out]; exact hne))
                have HO5 : Hid (OneKept _ w5 q) := HO4.out.trans ho5
                have HR5 : Hid (RdrAt w5 q a l cap (p + 16)) := hr5
                clear ho5 hr5 hne
                have HX1 := tok_box HO5.out hqn
                obtain ⟨⟨b0, b1⟩, g0, g1⟩ := pair_cell HX1
                have hzz : w.heap.size < w5.heap.size := (Array.getElem?_eq_some_iff.1 HX1).1
                obtain ⟨r0, r1, r2⟩ := boxF_fin HR0.out HO5.out HX1 HR5.out (.slice none 0 0) (.slice none 0 0)
                have R0 : Hid _ := r0
                have R1 : Hid (OneKept _ _ _) := r1
                have R2 : Hid (RdrAt _ _ _ _ _ _) := r2
                clear HX1 r0 r1 r2
                go_wp2
                obtain ⟨r0, r1⟩ := R0.out
                refine bodyPost_ret (v := .tuple #[.agg #[.slice none 0 0, .slice none 0 0], .int .i64 8]) (by simp [results, Tryz.results117, go_sem, r0, r1]) rfl ⟨R1.out, .inl ⟨8, p + 16, HE.out, by decide, hsh, rfl, R2.out⟩⟩
              · have HE : Hid (rStep false ((bitsIn l).drop n) = .ok (some ts, (bitsIn l).drop (p + 16))) := rStep_ok HN1.out hv HBAD.out ((rFrame_ok HTK.out HPAD.out (by rw [HP.out]; exact hsh) HEX.out (by rw [HP.out]; exact heq)).trans (by rw [HP.out]))
                have HO5 : Hid (OneKept _ w5 q) := HO4.out.trans ho5
                have HR5 : Hid (RdrAt w5 q a l cap (p + 16)) := hr5
                have HROW5 : Hid (TokRow w5 w1.heap.size (.slice ao ts.length cp) ts) := TokRow.kept HROW4.out ho5 (by omega)
                have HOW5 : Hid (OwnB w5 w3.heap.size (.slice bo out'.length bp) out') := HOW4.out.one ho5 (by omega)
                have HT5 : Hid (TokRow ((w5.setCell ⟨w.heap.size, 0, none⟩ (.slice ao ts.length cp)).setCell ⟨w.heap.size, 1, none⟩ (.slice bo out'.length bp)) w.heap.size (.slice ao ts.length cp) ts) :=
                  row_le (ownsRow_setCell_below (ownsRow_setCell_below HROW5.out (by show w.heap.size < w1.heap.size; omega) _) (by show w.heap.size < w1.heap.size; omega) _) (by omega)
                have HB5 : Hid (OwnB ((w5.setCell ⟨w.heap.size, 0, none⟩ (.slice ao ts.length cp)).setCell ⟨w.heap.size, 1, none⟩ (.slice bo out'.length bp)) w.heap.size (.slice bo out'.length bp) out') :=
                  row_le (ownsRow_setCell_below (ownsRow_setCell_below HOW5.out (by show w.heap.size < w3.heap.size; omega) _) (by show w.heap.size < w3.heap.size; omega) _) (by omega)
                have H8' : Hid ((p + 16) % 8 = 0) := by show _ = _; have := H8.out; omega
                have ho1 : 1 ≤ out'.length := by have := HOL.out; omega
                clear ho5 hr5 heq
                have HX1 := tok_box HO5.out hqn
                obtain ⟨⟨b0, b1⟩, g0, g1⟩ := pair_cell HX1
                have hzz : w.heap.size < w5.heap.size := (Array.getElem?_eq_some_iff.1 HX1).1
                obtain ⟨r0, r1, r2⟩ := boxF_fin HR0.out HO5.out HX1 HR5.out (.slice ao ts.length cp) (.slice bo out'.length bp)
                have R0 : Hid _ := r0
                have R1 : Hid (OneKept _ _ _) := r1
                have R2 : Hid (RdrAt _ _ _ _ _ _) := r2
                clear HX1 r0 r1 r2
                go_wp2
                obtain ⟨r0, r1⟩ := R0.out
                refine bodyPost_ret (v := .tuple #[.agg #[.slice ao ts.length cp, .slice bo out'.length bp], .int .i64 0]) (by simp [results, Tryz.results117, go_sem, r0, r1]) rfl ⟨R1.out, .inr (.inr ⟨ts, out', p + 16, _, _, HE.out, by omega, hsh, H8'.out, HEX.out, ho1, hol', hal, rfl, HT5.out, HB5.out, R2.out⟩)⟩
end Go.Proofs.YtnpnaglgllcpfaaGreat
