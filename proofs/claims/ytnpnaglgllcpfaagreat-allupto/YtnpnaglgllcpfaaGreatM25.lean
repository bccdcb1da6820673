/-
  Lemmas for the law All: Wd0, Wd1, Wd2.
-/
import Derived.Test.YtnpnaglgllcpfaaGreatM22
import Derived.Test.YtnpnaglgllcpfaaGreatM24
/- The law's Encoder: what it holds, up to where a stream is certain, and a Write of it. -/
namespace Go.Proofs.YtnpnaglgllcpfaaGreat
set_option maxRecDepth 100000
open Go.RowKit

/-- The law's encoder in block cb: the Encoder, its data, what came out, was it closed. -/
abbrev EBox (w : World) (cb q : Nat) (vd vo : Value) (closed : Bool) : Prop := w.heap[cb]? = some (.cells #[.pointer (some ⟨q, 0, none⟩), vd, vo, .bool closed] 53 (0, 0))
theorem quad_cell {w : World} {q : Nat} {a b c d : Value} {t : TypeId} (h : w.heap[q]? = some (.cells #[a, b, c, d] t (0, 0))) :
    (w.cell? ⟨q, 0, none⟩ = some a ∧ w.cell? ⟨q, 1, none⟩ = some b ∧ w.cell? ⟨q, 2, none⟩ = some c ∧ w.cell? ⟨q, 3, none⟩ = some d) ∧ (w.frozen? ⟨q, 0, none⟩ = false ∧ w.frozen? ⟨q, 1, none⟩ = false ∧ w.frozen? ⟨q, 2, none⟩ = false ∧ w.frozen? ⟨q, 3, none⟩ = false) := by
  simp [World.cell?, World.frozen?, h]
/-- The law's encoder in block cb, which lies in the blocks F. -/
def LEnc (w : World) (cb : Nat) (F : List Nat) : Prop := ∃ (q : Nat) (vd vo : Value),
  (∃ d b, EBox w cb q vd vo false ∧ EncAt w q d b ∧ OwnB w 0 vd d ∧ OwnB w 0 vo (toBytes (sofar b d)) ∧ (∀ k, vd.ownBlock = some k → vo.ownBlock ≠ some k) ∧ F = cb :: q :: (vd.ownBlock.toList ++ vo.ownBlock.toList)) ∨
  (EBox w cb q vd vo true ∧ EncShut w q ∧ F = [cb, q])
theorem LEnc.lt {w : World} {cb : Nat} {F : List Nat} (h : LEnc w cb F) : cb ∈ F ∧ ∀ k ∈ F, k < w.heap.size := by
  obtain ⟨q, vd, vo, ⟨d, b, h1, h2, h3, h4, _, rfl⟩ | ⟨h1, ⟨_, _, _, h2⟩, rfl⟩⟩ := h
  · refine ⟨by simp, fun k hk => ?_⟩
    simp only [List.mem_cons, List.mem_append, Option.mem_toList] at hk
    rcases hk with rfl | rfl | hk | hk
    · exact (Array.getElem?_eq_some_iff.1 h1).1
    · exact h2.lt
    · exact (World.ownsRow.lt h3 k hk).2
    · exact (World.ownsRow.lt h4 k hk).2
  · refine ⟨by simp, fun k hk => ?_⟩
    simp only [List.mem_cons, List.not_mem_nil, or_false] at hk
    rcases hk with rfl | rfl
    · exact (Array.getElem?_eq_some_iff.1 h1).1
    · exact (Array.getElem?_eq_some_iff.1 h2).1
theorem LEnc.kept {w w' : World} {cb : Nat} {F G : List Nat} (h : LEnc w cb F) (k : KeptBut w w' G) (hF : ∀ i ∈ F, i ∉ G) : LEnc w' cb F := by
  have hlt := h.lt.2
  obtain ⟨q, vd, vo, ⟨d, b, h1, h2, h3, h4, h5, rfl⟩ | ⟨h1, ⟨x, y, z, h2⟩, rfl⟩⟩ := h
  · exact ⟨q, vd, vo, .inl ⟨d, b, (k.heap cb (hlt cb (by simp)) (hF cb (by simp))).trans h1, h2.kept (k.heap q (hlt q (by simp)) (hF q (by simp))), k.row h3 (fun b hb => hF b (by simp [hb])), k.row h4 (fun b hb => hF b (by simp [hb])), h5, rfl⟩⟩
  · exact ⟨q, vd, vo, .inr ⟨(k.heap cb (hlt cb (by simp)) (hF cb (by simp))).trans h1, ⟨x, y, z, (k.heap q (hlt q (by simp)) (hF q (by simp))).trans h2⟩, rfl⟩⟩

theorem ends_at {data : List UInt8} (n : Nat) (hn : n < data.length / 64) : ((List.range (cutN data)).map fun i => (24 + (frames (toksOf parseOf data) (i + 1)).length) / 8)[n]? = some ((24 + (frames (toksOf parseOf data) (n + 1)).length) / 8) := by
  have : n < cutN data := by unfold cutN; omega
  simp [this]

set_option maxHeartbeats 1000000 in
theorem certain_calls (sa da : Option Addr) (sc dc : Nat) (data : List UInt8) (w : World) (hd : data.length ≤ 2048) (hb : BytesAt w sa (streamOf parseOf data)) (hsm : (streamOf parseOf data).length ≤ 9223372036854775807) :
    Calls Tryz.prog 45 #[.slice sa (streamOf parseOf data).length sc, .slice da data.length dc] w fun e w' => e = .returned (.int .i64 (upTo parseOf data : Int)) ∧ Below w.heap.size w w' := by
  have HRC : Hid _ := read_calls sa (streamOf parseOf data) sc w hsm hb
  have HRD : Hid _ := stream_ends parse_chosen data hd
  clear hb
  go_enter Tryz.func45, Tryz.ntmps45
  go_wp2_with fail
  refine Calls.mono HRC.out ?_
  rintro r w1 ⟨hb1, rfl, L, n, vP, vD, vE, ht1, hl1⟩
  rw [HRD.out] at ht1 hl1
  have HB1 : Hid (Below w.heap.size w w1) := hb1
  obtain ⟨⟨_, _, t5⟩, _⟩ := ht1.lists
  have hqt : w.heap.size < w1.heap.size := ht1.lt
  have hE := hl1.ends
  simp only [List.length_map, List.length_range] at hE
  have hc2 : data.length / 64 ≤ cutN data := by unfold cutN; omega
  have hc3 : cutN data ≤ 32 := by unfold cutN; omega
  have HE : Hid _ := hE
  obtain ⟨eo, ec, rfl⟩ := row_form hE
  clear hb1 ht1 hl1 hE HRC HRD
  by_cases h0 : data.length / 64 = 0
  · have hu : upTo parseOf data = 3 := by
      unfold upTo fullBits
      rw [h0]; simp
    have h0b : ((data.length : Int) / 64 == 0) = true := by simp; omega
    go_wp2
    go_ret
    exact ⟨by rw [hu]; rfl, HB1.out⟩
  · obtain ⟨M, hM⟩ : ∃ M : Nat, data.length / 64 = M + 1 := ⟨data.length / 64 - 1, by omega⟩
    have hu : upTo parseOf data = (24 + (frames (toksOf parseOf data) (M + 1)).length) / 8 := by
      unfold upTo
      rw [← frames_full_is parse_chosen, hM]
    obtain ⟨g, he, hcell⟩ : ∃ g, eo = some ⟨g, 0, none⟩ ∧ w1.cell? ⟨g, M, none⟩ = some (.int .i64 (((24 + (frames (toksOf parseOf data) (M + 1)).length) / 8 : Nat) : Int)) := by
      rcases HE.out.2 with ⟨_, h2⟩ | ⟨g, cap, cur, h1, _, hg, _⟩
      · omega
      · simp at h1
        refine ⟨g, h1.1, ?_⟩
        have hadd : (⟨g, 0, none⟩ : Addr).add M = ⟨g, M, none⟩ := by unfold Addr.add; split <;> simp_all
        rw [← hadd]
        refine World.ownsRow.cells HE.out (g := g) (by rw [h1.1]; rfl) M _ ?_
        have hlt : M < cutN data := by omega
        simp [hlt]
    subst he
    have HU : Hid _ := hu
    generalize (24 + (frames (toksOf parseOf data) (M + 1)).length) / 8 = U at *
    have h0b : ((data.length : Int) / 64 == 0) = false := by simp; omega
    have h1b : ¬ (cutN data : Int) < (data.length : Int) / 64 := by omega
    have hMi : (data.length : Int) / 64 - 1 = (M : Int) := by omega
    have hMb : (0 : Int) ≤ (M : Int) ∧ (M : Int) < (cutN data : Int) := by omega
    clear hM h0 HE hu
    go_wp2
    go_ret
    exact ⟨by rw [HU.out]; rfl, HB1.out⟩

theorem own_cap {w : World} {B : Nat} {a : Option Addr} {cap : Nat} {out : List UInt8} (h : OwnB w B (.slice a out.length cap) out) : out.length ≤ cap ∧ (a = none → out.length = 0 ∧ cap = 0) := by
  rcases h.2 with ⟨h1, h2⟩ | ⟨g, c, cur, h1, _, _, hl, _⟩
  · simp at h1
    exact ⟨by omega, fun _ => ⟨h2, h1.2.2⟩⟩
  · simp at h1
    exact ⟨by omega, fun h => by rw [h1.1] at h; cases h⟩
theorem cellE_ne {w : World} {B n z k : Nat} {e t : TypeId} {v : Value} {xs : List Value} {cs : Array Value} {m : Nat × Nat} (h : w.ownsRow B e z v n xs) (hk : w.heap[k]? = some (.cells cs t m)) (hne : e ≠ t) : v.ownBlock ≠ some k := fun h' => by
  rcases h.2 with ⟨h2, _⟩ | ⟨g, cap, cur, h2, _, hg, _⟩
  · rw [h2] at h'; simp [Value.ownBlock] at h'
  · rw [h2] at h'
    simp [Value.ownBlock] at h'
    subst h'
    rw [hk] at hg
    simp at hg
    exact hne hg.2.1.symm

set_option maxHeartbeats 1000000 in
theorem goes_calls (cb q : Nat) (vd : Value) (closed : Bool) (oo yo so : Option Addr) (oc yc sc to : Nat) (O Y S : List UInt8) (w : World) (hbox : EBox w cb q vd (.slice oo O.length oc) closed) (ho : OwnB w 0 (.slice oo O.length oc) O) (hy : OwnB w 0 (.slice yo Y.length yc) Y) (hs : OwnB w 0 (.slice so S.length sc) S)
    (hne : ∀ k, (Value.slice oo O.length oc).ownBlock = some k → (Value.slice so S.length sc).ownBlock ≠ some k) (hto : to ≤ S.length) (heq : O ++ Y = S.take to) (hsl : S.length ≤ 100000) :
    Calls Tryz.prog 46 #[.pointer (some ⟨cb, 0, none⟩), .slice yo Y.length yc, .slice so S.length sc, .int .i64 (to : Int)] w fun e w' => e = .returned (.bool true) ∧ ∃ vo', EBox w' cb q vd vo' closed ∧ OwnB w' 0 vo' (O ++ Y) ∧ (vo'.ownBlock = (Value.slice oo O.length oc).ownBlock ∨ vo'.ownBlock = some w.heap.size) ∧ KeptBut w w' (cb :: (Value.slice oo O.length oc).ownBlock.toList) := by
  obtain ⟨⟨c0, c1, c2, c3⟩, f0, f1, f2, f3⟩ := quad_cell hbox
  have hlen := congrArg List.length heq
  rw [List.length_append, List.length_take] at hlen
  have hocb : (Value.slice oo O.length oc).ownBlock ≠ some cb := cellE_ne ho hbox (by decide)
  have hscb : (Value.slice so S.length sc).ownBlock ≠ some cb := cellE_ne hs hbox (by decide)
  have hcb := (Array.getElem?_eq_some_iff.1 hbox).1
  obtain ⟨hscap, hsnone⟩ := own_cap hs
  have HBOX : Hid _ := hbox
  have HO : Hid (OwnB w 0 (.slice oo O.length oc) O) := ho
  have HY : Hid (BytesAt w yo Y) := ownB_bytes hy
  have HYC : Hid _ := (own_cap hy).2
  have HS : Hid (OwnB w 0 (.slice so S.length sc) S) := hs
  have HNE : Hid _ := hne
  have HEQ : Hid _ := heq
  clear hbox ho hy hs hne heq
  go_enter Tryz.func46, Tryz.ntmps46
  go_wp2_with (at_builtin; refine wpList_append_at rfl _ _ rfl 0 _ O rfl HO.out yo Y yc rfl HY.out HYC.out ?b1 (Nat.zero_le _) ?_)
  case b1 => omega
  intro vo' w1 hvo hg1 hat
  obtain ⟨oo', oc', rfl⟩ := hvo.form
  have hb1 : EBox w1 cb q vd (.slice oo O.length oc) closed := (hg1.block cb hcb (fun h => hocb h.symm)).trans HBOX.out
  have hs1 : OwnB w1 0 (.slice so S.length sc) S := World.ownsRow.kept HS.out hg1 (by
    cases h : (Value.slice so S.length sc).ownBlock with
    | none => exact .inl rfl
    | some k => exact .inr (fun e => HNE.out k e.symm h))
  have hocb1 : (Value.slice oo' (O ++ Y).length oc').ownBlock ≠ some cb := cellE_ne hvo hb1 (by decide)
  obtain ⟨⟨c0, c1, c2, c3⟩, f0, f1, f2, f3⟩ := quad_cell hb1
  have hsz := hg1.size
  have HFIN : Hid (∀ nd, EBox ((w1.setCell ⟨cb, 2, none⟩ (.slice oo' (O ++ Y).length oc')).drewN nd) cb q vd (.slice oo' (O ++ Y).length oc') closed ∧ OwnB ((w1.setCell ⟨cb, 2, none⟩ (.slice oo' (O ++ Y).length oc')).drewN nd) 0 (.slice oo' (O ++ Y).length oc') (O ++ Y) ∧ ((Value.slice oo' (O ++ Y).length oc').ownBlock = (Value.slice oo O.length oc).ownBlock ∨ (Value.slice oo' (O ++ Y).length oc').ownBlock = some w.heap.size) ∧ KeptBut w ((w1.setCell ⟨cb, 2, none⟩ (.slice oo' (O ++ Y).length oc')).drewN nd) (cb :: (Value.slice oo O.length oc).ownBlock.toList)) := fun nd =>
    ⟨set_block (i := 2) hb1 _, hvo.set _ hocb1, hat, ((KeptBut.grown hg1 (fun k hk => by simp [hk])).set (by simp) _).trans (KeptBut.below (below_drewN (Below.refl _ _) _))⟩
  have k1 : ∀ n, (convert 37 9 (.slice oo' (O ++ Y).length oc')).run Tryz.prog ((w1.setCell ⟨cb, 2, none⟩ (.slice oo' (O ++ Y).length oc')).drewN n) = .ok (.string ⟨(O ++ Y).toArray⟩) ((w1.setCell ⟨cb, 2, none⟩ (.slice oo' (O ++ Y).length oc')).drewN n) := conv_drew (w := w1.setCell ⟨cb, 2, none⟩ (.slice oo' (O ++ Y).length oc')) (hvo.set _ hocb1)
  have k2 : ∀ n, (convert 37 9 (.slice so to sc)).run Tryz.prog ((w1.setCell ⟨cb, 2, none⟩ (.slice oo' (O ++ Y).length oc')).drewN n) = .ok (.string ⟨(O ++ Y).toArray⟩) ((w1.setCell ⟨cb, 2, none⟩ (.slice oo' (O ++ Y).length oc')).drewN n) := fun n => by
    have hbt : BytesAt ((w1.setCell ⟨cb, 2, none⟩ (.slice oo' (O ++ Y).length oc')).drewN n) so (S.take to) := by
      have hss : OwnB ((w1.setCell ⟨cb, 2, none⟩ (.slice oo' (O ++ Y).length oc')).drewN n) 0 (.slice so S.length sc) S := hs1.set _ hscb
      rcases ownB_bytes hss with h | ⟨b, off, h1, h2⟩
      · exact .inl (by rw [h]; simp)
      · have := BytesAt.part h2 0 to
        rw [List.drop_zero, Nat.add_zero] at this
        rw [h1]; exact this
    have := conv_bytes sc hbt
    rw [List.length_take, Nat.min_eq_left hto] at this
    rw [this, HEQ.out]
  have hb2 : (0 : Int) ≤ (to : Int) ∧ (to : Int) ≤ (sc : Int) := by omega
  have hb3 : (to : Int) ≤ (S.length : Int) := by omega
  have hb4 : ¬ (sc : Int) < (to : Int) := by omega
  clear hvo hg1 hat hb1 hs1 HBOX HO HY HYC HS HNE hlen
  generalize hOY : O ++ Y = OY at *
  have HOY : Hid (O ++ Y = OY) := hOY
  clear hOY
  rcases so with _ | sad
  · obtain ⟨hS0, rfl⟩ := hsnone rfl
    obtain rfl : to = 0 := by omega
    go_wp2_with fail
    go_quiet (fail)
    go_wp2
    go_ret
    exact ⟨rfl, _, by rw [HOY.out]; exact HFIN.out _⟩
  · clear hsnone
    go_wp2_with fail
    go_quiet (fail)
    go_wp2
    go_ret
    exact ⟨rfl, _, by rw [HOY.out]; exact HFIN.out _⟩
end Go.Proofs.YtnpnaglgllcpfaaGreat

/- The law's Encoder: every Write of it. -/
namespace Go.Proofs.YtnpnaglgllcpfaaGreat
set_option maxRecDepth 100000
open Go.RowKit

/-- How the law's write ends. -/
def LWriteAns (w w' : World) (cb : Nat) (F : List Nat) (r : Ending) : Prop :=
  ∃ vy y F', r = .returned (.tuple #[vy, .bool true]) ∧ OwnB w' w.heap.size vy y ∧ LEnc w' cb F' ∧ (∀ k ∈ F', k ∈ F ∨ w.heap.size ≤ k) ∧ (∀ k, vy.ownBlock = some k → k ∉ F') ∧ KeptBut w w' F
theorem ebox_ne {w : World} {cb q : Nat} {vd vo : Value} {c : Bool} {cs : Array Value} (h : EBox w cb q vd vo c) (h1 : w.heap[q]? = some (.cells cs 83 (0, 0))) : cb ≠ q := by
  rintro rfl
  unfold EBox at h
  rw [h1] at h
  simp at h
/-- The blocks that the law's write leaves, of an open Encoder. -/
theorem lwrite_fin {w w1 w2 w5 W : World} {cb q : Nat} {vd vo vd' vo' vy : Value} {d D O O' Y : List UInt8} (hcb : cb < w.heap.size) (hq : q < w.heap.size) (hcq : cb ≠ q) (hvd : OwnB w 0 vd d) (hvo : OwnB w 0 vo O) (hne : ∀ k, vd.ownBlock = some k → vo.ownBlock ≠ some k) (hvdcb : vd.ownBlock ≠ some cb) (hvdq : vd.ownBlock ≠ some q) (hvocb : vo.ownBlock ≠ some cb) (hvoq : vo.ownBlock ≠ some q)
    (hk1 : OneKept w w1 q) (hg2 : w1.grownBy w2 vd.ownBlock) (hat2 : vd'.ownBlock = vd.ownBlock ∨ vd'.ownBlock = some w1.heap.size) (hvd2 : OwnB w2 0 vd' D) (hk5 : KeptBut w2 w5 [cb]) (hkW : KeptBut w5 W (cb :: vo.ownBlock.toList)) (hatW : vo'.ownBlock = vo.ownBlock ∨ vo'.ownBlock = some w5.heap.size)
    (hy : OwnB w1 w.heap.size vy Y) (hE : EncAt w1 q D true) (hbW : EBox W cb q vd' vo' false) (hvoW : OwnB W 0 vo' O') (hO : O' = toBytes (sofar true D)) :
    LWriteAns w W cb (cb :: q :: (vd.ownBlock.toList ++ vo.ownBlock.toList)) (.returned (.tuple #[vy, .bool true])) := by
  have hs1 := hk1.size
  have hs2 := hg2.size
  have hs5 := hk5.size
  have hdl : ∀ k, vd.ownBlock = some k → k < w.heap.size := fun k hk => (World.ownsRow.lt hvd k hk).2
  have hol : ∀ k, vo.ownBlock = some k → k < w.heap.size := fun k hk => (World.ownsRow.lt hvo k hk).2
  have hyb : ∀ k, vy.ownBlock = some k → w.heap.size ≤ k ∧ k < w1.heap.size := fun k hk => World.ownsRow.lt hy k hk
  have hd'l : ∀ k, vd'.ownBlock = some k → k < w2.heap.size := fun k hk => (World.ownsRow.lt hvd2 k hk).2
  have hd'cb : ∀ k, vd'.ownBlock = some k → k ≠ cb := fun k hk e => by
    subst e
    rcases hat2 with h | h
    · exact hvdcb (h.symm.trans hk)
    · rw [h] at hk; simp at hk; omega
  have hd'o : ∀ k, vd'.ownBlock = some k → vo.ownBlock ≠ some k := fun k hk e => by
    rcases hat2 with h | h
    · exact hne k (h.symm.trans hk) e
    · rw [h] at hk; simp at hk; have := hol k e; omega
  have hkF : KeptBut w W (cb :: q :: (vd.ownBlock.toList ++ vo.ownBlock.toList)) := by
    refine (((KeptBut.one hk1 (by simp)).step (KeptBut.grown (F := vd.ownBlock.toList) hg2 (fun k hk => by simp [hk])) (fun i hi => .inl (by simp at hi; simp [hi]))).step hk5 (fun i hi => .inl (by simp at hi; simp [hi]))).step hkW (fun i hi => .inl ?_)
    simp only [List.mem_cons, Option.mem_toList] at hi
    rcases hi with rfl | hi
    · simp
    · simp [hi]
  have hyW : OwnB W w.heap.size vy Y := by
    refine hkW.row (hk5.row (World.ownsRow.kept hy hg2 ?_) (fun b hb => by have := hyb b hb; simp; omega)) (fun b hb => ?_)
    · cases h : vy.ownBlock with
      | none => exact .inl rfl
      | some k => exact .inr (fun e => by have := hyb k h; have := hdl k e.symm; omega)
    · have h1 := hyb b hb
      simp only [List.mem_cons, Option.mem_toList, not_or]
      exact ⟨by omega, fun h => by have := hol b h; omega⟩
  have hdW : OwnB W 0 vd' D := by
    refine hkW.row (hk5.row hvd2 (fun b hb => by have := hd'cb b hb; simpa using this)) (fun b hb => ?_)
    simp only [List.mem_cons, Option.mem_toList, not_or]
    exact ⟨hd'cb b hb, hd'o b hb⟩
  have hEW : EncAt W q D true := by
    refine hE.kept ?_
    rw [hkW.heap q (by omega) (by simp only [List.mem_cons, Option.mem_toList, not_or]; exact ⟨Ne.symm hcq, hvoq⟩), hk5.heap q (by omega) (by simp; omega), hg2.block q (by omega) (fun e => hvdq e.symm)]
  subst hO
  refine ⟨vy, Y, cb :: q :: (vd'.ownBlock.toList ++ vo'.ownBlock.toList), rfl, hyW, ⟨q, vd', vo', .inl ⟨D, true, hbW, hEW, hdW, hvoW, fun k hk e => ?_, rfl⟩⟩, fun k hk => ?_, fun k hk => ?_, hkF⟩
  · rcases hatW with h | h
    · exact hd'o k hk (h.symm.trans e)
    · rw [h] at e; simp at e; have := hd'l k hk; omega
  · simp only [List.mem_cons, List.mem_append, Option.mem_toList] at hk
    rcases hk with rfl | rfl | hk | hk
    · exact .inl (by simp)
    · exact .inl (by simp)
    · rcases hat2 with h | h
      · left; have := h.symm.trans hk; simp [this]
      · rw [h] at hk; simp at hk; right; omega
    · rcases hatW with h | h
      · left; have := h.symm.trans hk; simp [this]
      · rw [h] at hk; simp at hk; right; omega
  · have h1 := hyb k hk
    simp only [List.mem_cons, List.mem_append, Option.mem_toList, not_or]
    refine ⟨by omega, by omega, fun h => ?_, fun h => ?_⟩
    · rcases hat2 with g | g
      · have := hdl k (g.symm.trans h); omega
      · rw [g] at h; simp at h; omega
    · rcases hatW with g | g
      · have := hol k (g.symm.trans h); omega
      · rw [g] at h; simp at h; omega

set_option maxHeartbeats 4000000 in
theorem lwrite_live (cb q : Nat) (vd vo : Value) (d p : List UInt8) (b : Bool) (pa : Option Addr) (pc : Nat) (w : World) (hbox : EBox w cb q vd vo false) (henc : EncAt w q d b) (hvd : OwnB w 0 vd d) (hvo : OwnB w 0 vo (toBytes (sofar b d))) (hne : ∀ k, vd.ownBlock = some k → vo.ownBlock ≠ some k)
    (hp : BytesAt w pa p) (hpc : pa = none → p.length = 0 ∧ pc = 0) (hpF : ∀ k off, pa = some ⟨k, off, none⟩ → k ∉ cb :: q :: (vd.ownBlock.toList ++ vo.ownBlock.toList)) (hl : d.length + p.length ≤ 2048) :
    Calls Tryz.prog 21 #[.pointer (some ⟨cb, 0, none⟩), .slice pa p.length pc] w fun r w' => LWriteAns w w' cb (cb :: q :: (vd.ownBlock.toList ++ vo.ownBlock.toList)) r := by
  obtain ⟨⟨c0, c1, c2, c3⟩, f0, f1, f2, f3⟩ := quad_cell hbox
  obtain ⟨pcs, hencb, _⟩ := id henc
  have hcq : cb ≠ q := ebox_ne hbox hencb
  have hcb := (Array.getElem?_eq_some_iff.1 hbox).1
  have hq := henc.lt
  have hvdcb : vd.ownBlock ≠ some cb := cellE_ne hvd hbox (by decide)
  have hvdq : vd.ownBlock ≠ some q := cellE_ne hvd hencb (by decide)
  have hvocb : vo.ownBlock ≠ some cb := cellE_ne hvo hbox (by decide)
  have hvoq : vo.ownBlock ≠ some q := cellE_ne hvo hencb (by decide)
  obtain ⟨ao, ac, rfl⟩ := hvd.form
  obtain ⟨oo, oc, rfl⟩ := hvo.form
  have HWR : Hid _ := ewrite_calls q d p b pa pc w henc hp (fun k off h e => hpF k off h (by simp [e])) hl
  have HBOX : Hid _ := hbox
  have HVD : Hid (OwnB w 0 (.slice ao d.length ac) d) := hvd
  have HVO : Hid (OwnB w 0 (.slice oo (toBytes (sofar b d)).length oc) (toBytes (sofar b d))) := hvo
  have HNE : Hid _ := hne
  have HPC : Hid _ := hpc
  have HPF : Hid _ := hpF
  have HP : Hid (BytesAt w pa p) := hp
  have H1 : Hid _ := hvdcb
  have H2 : Hid _ := hvdq
  have H3 : Hid _ := hvocb
  have H4 : Hid _ := hvoq
  clear hbox henc hvd hvo hne hpc hpF hp hencb hvdcb hvdq hvocb hvoq
  go_enter Tryz.func21, Tryz.ntmps21
  go_wp2_with fail
  refine Calls.mono HWR.out ?_
  rintro r w1 ⟨hk1, hE1, L, vy, rfl, hL, hy⟩
  obtain ⟨yo, yc, rfl⟩ := hy.form
  have hs1 := hk1.size
  have HK1 : Hid (OneKept w w1 q) := hk1
  have HE1 : Hid (EncAt w1 q (d ++ p) true) := hE1
  have HY1 : Hid (OwnB w1 w.heap.size (.slice yo (toBytes L).length yc) (toBytes L)) := hy
  have HL : Hid _ := hL
  have HB1 : Hid (EBox w1 cb q (.slice ao d.length ac) (.slice oo (toBytes (sofar b d)).length oc) false) := (hk1.heap cb hcb hcq).trans HBOX.out
  have HVD1 : Hid (OwnB w1 0 (.slice ao d.length ac) d) := World.ownsRow.kept HVD.out ⟨hk1.os, hk1.tape, hk1.output, hk1.size, fun k h1 h2 => hk1.heap k h1 (fun e => h2 (by rw [e]))⟩ (by cases h : (Value.slice ao d.length ac).ownBlock with | none => exact .inl rfl | some k => exact .inr (fun e => H2.out (h.trans e)))
  have HVO1 : Hid (OwnB w1 0 (.slice oo (toBytes (sofar b d)).length oc) (toBytes (sofar b d))) := World.ownsRow.kept HVO.out ⟨hk1.os, hk1.tape, hk1.output, hk1.size, fun k h1 h2 => hk1.heap k h1 (fun e => h2 (by rw [e]))⟩ (by cases h : (Value.slice oo (toBytes (sofar b d)).length oc).ownBlock with | none => exact .inl rfl | some k => exact .inr (fun e => H4.out (h.trans e)))
  have HP1 : Hid (BytesAt w1 pa p) := by
    rcases HP.out with h | ⟨b', off, h1, h2⟩
    · exact .inl h
    · refine .inr ⟨b', off, h1, fun i hi => ?_⟩
      rw [World.cell?_of_block (hk1.heap b' (World.block_lt_of_cell? w _ (h2 i hi)) (fun e => HPF.out b' off h1 (by simp [e])))]
      exact h2 i hi
  obtain ⟨⟨c0, c1, c2, c3⟩, f0, f1, f2, f3⟩ := quad_cell HB1.out
  have hcb1 : cb < w1.heap.size := by omega
  have hlb : ¬ (2048 : Int) < (d.length : Int) + (p.length : Int) := by omega
  have hdl : d.length ≤ 2048 := by omega
  clear HWR hk1 hE1 hL hy
  generalize hYY : toBytes L = Y at *
  generalize hOO : toBytes (sofar b d) = O at *
  have HYY : Hid _ := hYY
  have HOO : Hid _ := hOO
  clear hYY hOO
  go_wp2_with (at_builtin; refine wpList_append_at rfl _ _ rfl 0 _ d rfl HVD1.out pa p pc rfl HP1.out HPC.out ?b1 (Nat.zero_le _) ?_)
  case b1 => omega
  intro vd' w2 hvd2 hg2 hat2
  obtain ⟨ao', ac', rfl⟩ := hvd2.form
  have hs2 := hg2.size
  have hDl : (d ++ p).length ≤ 2048 := by rw [List.length_append]; exact hl
  have HB2 : Hid (EBox w2 cb q (.slice ao d.length ac) (.slice oo O.length oc) false) := (hg2.block cb hcb1 (fun h => H1.out h.symm)).trans HB1.out
  have HVO2 : Hid (OwnB w2 0 (.slice oo O.length oc) O) := World.ownsRow.kept HVO1.out hg2 (by
    cases h : (Value.slice oo O.length oc).ownBlock with
    | none => exact .inl rfl
    | some k => exact .inr (fun e => HNE.out k e.symm h))
  have hd'cb : (Value.slice ao' (d ++ p).length ac').ownBlock ≠ some cb := cellE_ne hvd2 HB2.out (by decide)
  have HB3 : Hid (EBox (w2.setCell ⟨cb, 1, none⟩ (.slice ao' (d ++ p).length ac')) cb q (.slice ao' (d ++ p).length ac') (.slice oo O.length oc) false) := set_block (i := 1) HB2.out _
  have HVD3 : Hid (OwnB (w2.setCell ⟨cb, 1, none⟩ (.slice ao' (d ++ p).length ac')) 0 (.slice ao' (d ++ p).length ac') (d ++ p)) := hvd2.set _ hd'cb
  have HVO3 : Hid (OwnB (w2.setCell ⟨cb, 1, none⟩ (.slice ao' (d ++ p).length ac')) 0 (.slice oo O.length oc) O) := HVO2.out.set _ H3.out
  have HK3 : Hid (KeptBut w2 (w2.setCell ⟨cb, 1, none⟩ (.slice ao' (d ++ p).length ac')) [cb]) := (KeptBut.refl _ _).set (by simp) _
  have hs3 : (w2.setCell ⟨cb, 1, none⟩ (.slice ao' (d ++ p).length ac')).heap.size = w2.heap.size := set_size _ _ _
  have HY2 : Hid (OwnB w2 w.heap.size (.slice yo Y.length yc) Y) := World.ownsRow.kept HY1.out hg2 (by
    cases h : (Value.slice yo Y.length yc).ownBlock with
    | none => exact .inl rfl
    | some k => exact .inr (fun e => by have h1 := World.ownsRow.lt HY1.out k h; have h2 := World.ownsRow.lt HVD.out k e.symm; omega))
  have HYCB : Hid ((Value.slice yo Y.length yc).ownBlock ≠ some cb) := fun e => by have h1 := World.ownsRow.lt HY1.out cb e; omega
  have HY3 : Hid (OwnB (w2.setCell ⟨cb, 1, none⟩ (.slice ao' (d ++ p).length ac')) w.heap.size (.slice yo Y.length yc) Y) := HY2.out.set _ HYCB.out
  have HVD2 : Hid (OwnB w2 0 (.slice ao' (d ++ p).length ac') (d ++ p)) := hvd2
  have HG2 : Hid _ := hg2
  have HAT2 : Hid _ := hat2
  have HCP : Hid _ := compressed2_calls parseOf parse_chosen parse_said compress_said ao' (d ++ p) ac' (w2.setCell ⟨cb, 1, none⟩ (.slice ao' (d ++ p).length ac')) (by omega) (own_cap HVD3.out).1 (ownB_bytes HVD3.out)
  obtain ⟨⟨c0, c1, c2, c3⟩, f0, f1, f2, f3⟩ := quad_cell HB2.out
  have hcb2 : cb < w2.heap.size := by omega
  clear hvd2 hg2 hat2
  generalize hDD : d ++ p = D at *
  have HDD : Hid _ := hDD
  clear hDD
  go_wp2_with fail
  refine Calls.mono HCP.out ?_
  generalize w2.setCell ⟨cb, 1, none⟩ (.slice ao' D.length ac') = w3 at *
  rintro r w4 ⟨hb4, vs, rfl, hvs⟩
  have hvs' := hvs hDl
  obtain ⟨so, sc, rfl⟩ := hvs'.form
  have hs4 := hb4.size
  have hs3' : w2.heap.size ≤ w3.heap.size := by omega
  have HS3 : Hid (w3.heap.size = w2.heap.size) := hs3
  have HS4 : Hid (OwnB w4 w3.heap.size (.slice so (streamOf parseOf D).length sc) (streamOf parseOf D)) := hvs'
  have HB4 : Hid (EBox w4 cb q (.slice ao' D.length ac') (.slice oo O.length oc) false) := (hb4.block cb (by omega)).trans HB3.out
  have HVO4 : Hid (OwnB w4 0 (.slice oo O.length oc) O) := OwnB.below HVO3.out hb4
  have HY4 : Hid (OwnB w4 w.heap.size (.slice yo Y.length yc) Y) := OwnB.below HY3.out hb4
  have HK4 : Hid (KeptBut w2 w4 [cb]) := HK3.out.step (KeptBut.below (F := []) hb4) (fun i hi => by simp at hi)
  obtain ⟨⟨c0, c1, c2, c3⟩, f0, f1, f2, f3⟩ := quad_cell HB4.out
  have hcb4 : cb < w4.heap.size := by omega
  have hSl : (streamOf parseOf D).length ≤ 100000 := by
    have h1 := frames_chosen parse_chosen D _ (Nat.le_refl _)
    unfold streamOf
    rw [toBytes_length]
    unfold streamBits
    rw [toksOf_length] at h1 ⊢
    simp only [List.length_append, magic_length, endBits_length]
    unfold cutN at *
    omega
  have HCT : Hid _ := certain_calls so ao' sc ac' D w4 hDl (ownB_bytes hvs') (by omega)
  clear hs3 hvs hvs' hb4 HCP HB3 HVD3 HVO3 HK3 HY3
  go_wp2_with (first | (go_at_call 36; go_in) | fail)
  refine Calls.mono HCT.out ?_
  rintro r w5 ⟨rfl, hb5⟩
  have hs5 := hb5.size
  obtain ⟨hto, htake⟩ := stream_take parse_chosen D
  have HOY : Hid (O ++ Y = toBytes (sofar true D)) := by
    show _ = _
    rw [← HOO.out, ← HYY.out, ← toBytes_append _ _ (sofar_full b d), HL.out]
    rfl
  have HB5 : Hid (EBox w5 cb q (.slice ao' D.length ac') (.slice oo O.length oc) false) := (hb5.block cb (by omega)).trans HB4.out
  have HK5 : Hid (KeptBut w2 w5 [cb]) := HK4.out.step (KeptBut.below (F := []) hb5) (fun i hi => by simp at hi)
  have HGO : Hid _ := goes_calls cb q (.slice ao' D.length ac') false oo yo so oc yc sc (upTo parseOf D) O Y (streamOf parseOf D) w5 HB5.out (OwnB.below HVO4.out hb5) (OwnB.le (OwnB.below HY4.out hb5) (Nat.zero_le _)) (OwnB.le (OwnB.below HS4.out hb5) (Nat.zero_le _)) (fun k hk e => by
    have h1 := (World.ownsRow.lt HS4.out k e).1
    have h2 := (World.ownsRow.lt HVO.out k hk).2
    omega) hto (by rw [HOY.out, htake]; rfl) hSl
  clear hb5 HCT htake hto
  generalize (streamOf parseOf D).length = SL at *
  generalize upTo parseOf D = U at *
  obtain ⟨⟨c0, c1, c2, c3⟩, f0, f1, f2, f3⟩ := quad_cell HB5.out
  go_wp2_with fail
  refine Calls.mono HGO.out ?_
  rintro r w6 ⟨rfl, vo', hb6, ho6, hat6, hk6⟩
  have HFF : Hid _ := lwrite_fin (cb := cb) (q := q) (W := w6) hcb hq hcq HVD.out HVO.out HNE.out H1.out H2.out H3.out H4.out HK1.out HG2.out HAT2.out HVD2.out HK5.out hk6 hat6 HY1.out HE1.out hb6 ho6 HOY.out
  clear hb6 ho6 hat6 hk6 HGO
  go_wp2
  go_ret2
  rw [HOO.out]
  exact HFF.out
end Go.Proofs.YtnpnaglgllcpfaaGreat

/- The law's Encoder: every Write, every Close; an Encoder that is none. -/
namespace Go.Proofs.YtnpnaglgllcpfaaGreat
set_option maxRecDepth 100000
open Go.RowKit

set_option maxHeartbeats 1000000 in
theorem lwrite_long (cb q : Nat) (vd vo : Value) (d : List UInt8) (b : Bool) (pa : Option Addr) (pn pc : Nat) (w : World) (F : List Nat) (hL : LEnc w cb F) (hbox : EBox w cb q vd vo false) (henc : EncAt w q d b) (hvd : OwnB w 0 vd d) (hl : 2048 < d.length + pn) (hpn : pn ≤ 140737488355328) :
    Calls Tryz.prog 21 #[.pointer (some ⟨cb, 0, none⟩), .slice pa pn pc] w fun r w' => LWriteAns w w' cb F r := by
  obtain ⟨⟨c0, c1, c2, c3⟩, _⟩ := quad_cell hbox
  obtain ⟨ao, ac, rfl⟩ := hvd.form
  have HF : Hid _ := ewrite_long q d b pa pn pc w henc hl
  have hd : d.length ≤ 2048 := by obtain ⟨_, _, _, _, h, _⟩ := henc; exact h
  have HANS : Hid (∀ nd, LWriteAns w (w.drewN nd) cb F (.returned (.tuple #[.slice none 0 0, .bool true]))) := fun nd =>
    ⟨.slice none 0 0, [], F, rfl, World.ownsRow_nil _ _ _ _, hL.kept (KeptBut.below (F := []) (below_drewN (Below.refl _ _) _)) (fun i _ => by simp), fun k hk => .inl hk, fun k hk => by simp [Value.ownBlock] at hk, KeptBut.below (below_drewN (Below.refl _ _) _)⟩
  have hlb : (2048 : Int) < (d.length : Int) + (pn : Int) := by omega
  clear hbox henc hvd hL
  go_enter Tryz.func21, Tryz.ntmps21
  go_wp2_with fail
  refine Calls.mono HF.out ?_
  rintro r w1 ⟨rfl, rfl⟩
  clear HF
  go_wp2_with (first | (go_at_call 36; go_in) | fail)
  go_wp2
  go_ret2
  exact HANS.out 0
set_option maxHeartbeats 1000000 in
theorem lwrite_shut (cb q : Nat) (vd vo : Value) (pa : Option Addr) (pn pc : Nat) (w : World) (F : List Nat) (hL : LEnc w cb F) (hbox : EBox w cb q vd vo true) (henc : EncShut w q) :
    Calls Tryz.prog 21 #[.pointer (some ⟨cb, 0, none⟩), .slice pa pn pc] w fun r w' => LWriteAns w w' cb F r := by
  obtain ⟨⟨c0, c1, c2, c3⟩, _⟩ := quad_cell hbox
  have HF : Hid _ := ewrite_shut q pa pn pc w henc
  have HANS : Hid (∀ nd, LWriteAns w (w.drewN nd) cb F (.returned (.tuple #[.slice none 0 0, .bool true]))) := fun nd =>
    ⟨.slice none 0 0, [], F, rfl, World.ownsRow_nil _ _ _ _, hL.kept (KeptBut.below (F := []) (below_drewN (Below.refl _ _) _)) (fun i _ => by simp), fun k hk => .inl hk, fun k hk => by simp [Value.ownBlock] at hk, KeptBut.below (below_drewN (Below.refl _ _) _)⟩
  clear hbox henc hL
  go_enter Tryz.func21, Tryz.ntmps21
  go_wp2_with fail
  refine Calls.mono HF.out ?_
  rintro r w1 ⟨rfl, rfl⟩
  clear HF
  go_wp2_with (first | (go_at_call 36; go_in) | fail)
  go_wp2
  go_ret2
  exact HANS.out 0
/-- Every Write of the law's Encoder. -/
theorem lwrite_calls (cb : Nat) (F : List Nat) (p : List UInt8) (pa : Option Addr) (pc : Nat) (w : World) (h : LEnc w cb F) (hp : BytesAt w pa p) (hpc : pa = none → p.length = 0 ∧ pc = 0) (hpl : p.length ≤ 140737488355328) (hpF : ∀ k off, pa = some ⟨k, off, none⟩ → k ∉ F) :
    Calls Tryz.prog 21 #[.pointer (some ⟨cb, 0, none⟩), .slice pa p.length pc] w fun r w' => LWriteAns w w' cb F r := by
  have h' := h
  obtain ⟨q, vd, vo, ⟨d, b, h1, h2, h3, h4, h5, rfl⟩ | ⟨h1, h2, rfl⟩⟩ := h
  · by_cases hl : d.length + p.length ≤ 2048
    · exact lwrite_live cb q vd vo d p b pa pc w h1 h2 h3 h4 h5 hp hpc hpF hl
    · exact lwrite_long cb q vd vo d b pa p.length pc w _ h' h1 h2 h3 (by omega) hpl
  · exact lwrite_shut cb q vd vo pa p.length pc w _ h' h1 h2

set_option maxHeartbeats 2000000 in
theorem lshut_live (cb q : Nat) (vd vo : Value) (d : List UInt8) (b : Bool) (w : World) (hbox : EBox w cb q vd vo false) (henc : EncAt w q d b) (hvd : OwnB w 0 vd d) (hvo : OwnB w 0 vo (toBytes (sofar b d))) (hne : ∀ k, vd.ownBlock = some k → vo.ownBlock ≠ some k) :
    Calls Tryz.prog 22 #[.pointer (some ⟨cb, 0, none⟩)] w fun r w' => LWriteAns w w' cb (cb :: q :: (vd.ownBlock.toList ++ vo.ownBlock.toList)) r := by
  obtain ⟨⟨c0, c1, c2, c3⟩, f0, f1, f2, f3⟩ := quad_cell hbox
  obtain ⟨pcs, hencb, _, _, hdl, _⟩ := id henc
  have hcq : cb ≠ q := ebox_ne hbox hencb
  have hcb := (Array.getElem?_eq_some_iff.1 hbox).1
  have hq := henc.lt
  have hvdcb : vd.ownBlock ≠ some cb := cellE_ne hvd hbox (by decide)
  have hvdq : vd.ownBlock ≠ some q := cellE_ne hvd hencb (by decide)
  have hvocb : vo.ownBlock ≠ some cb := cellE_ne hvo hbox (by decide)
  have hvoq : vo.ownBlock ≠ some q := cellE_ne hvo hencb (by decide)
  obtain ⟨ao, ac, rfl⟩ := hvd.form
  obtain ⟨oo, oc, rfl⟩ := hvo.form
  have HCL : Hid _ := eclose_calls q d b w henc
  have HBOX : Hid _ := hbox
  have HVD : Hid (OwnB w 0 (.slice ao d.length ac) d) := hvd
  have HVO : Hid (OwnB w 0 (.slice oo (toBytes (sofar b d)).length oc) (toBytes (sofar b d))) := hvo
  have HNE : Hid _ := hne
  have H1 : Hid _ := hvdcb
  have H2 : Hid _ := hvdq
  have H3 : Hid _ := hvocb
  have H4 : Hid _ := hvoq
  clear hbox henc hvd hvo hne hencb hvdcb hvdq hvocb hvoq
  go_enter Tryz.func22, Tryz.ntmps22
  go_wp2_with fail
  refine Calls.mono HCL.out ?_
  rintro r w1 ⟨hk1, hE1, L, vy, rfl, hL, hy⟩
  obtain ⟨yo, yc, rfl⟩ := hy.form
  have hs1 := hk1.size
  have HK1 : Hid (OneKept w w1 q) := hk1
  have HE1 : Hid (EncShut w1 q) := hE1
  have HY1 : Hid (OwnB w1 w.heap.size (.slice yo (toBytes L).length yc) (toBytes L)) := hy
  have HL : Hid _ := hL
  have HB1 : Hid (EBox w1 cb q (.slice ao d.length ac) (.slice oo (toBytes (sofar b d)).length oc) false) := (hk1.heap cb hcb hcq).trans HBOX.out
  have HVD1 : Hid (OwnB w1 0 (.slice ao d.length ac) d) := World.ownsRow.kept HVD.out ⟨hk1.os, hk1.tape, hk1.output, hk1.size, fun k h1 h2 => hk1.heap k h1 (fun e => h2 (by rw [e]))⟩ (by cases h : (Value.slice ao d.length ac).ownBlock with | none => exact .inl rfl | some k => exact .inr (fun e => H2.out (h.trans e)))
  have HVO1 : Hid (OwnB w1 0 (.slice oo (toBytes (sofar b d)).length oc) (toBytes (sofar b d))) := World.ownsRow.kept HVO.out ⟨hk1.os, hk1.tape, hk1.output, hk1.size, fun k h1 h2 => hk1.heap k h1 (fun e => h2 (by rw [e]))⟩ (by cases h : (Value.slice oo (toBytes (sofar b d)).length oc).ownBlock with | none => exact .inl rfl | some k => exact .inr (fun e => H4.out (h.trans e)))
  obtain ⟨⟨c0, c1, c2, c3⟩, f0, f1, f2, f3⟩ := quad_cell HB1.out
  have hcb1 : cb < w1.heap.size := by omega
  clear HCL hk1 hE1 hL hy
  generalize hYY : toBytes L = Y at *
  generalize hOO : toBytes (sofar b d) = O at *
  have HYY : Hid _ := hYY
  have HOO : Hid _ := hOO
  clear hYY hOO
  have HB3 : Hid (EBox (w1.setCell ⟨cb, 3, none⟩ (.bool true)) cb q (.slice ao d.length ac) (.slice oo O.length oc) true) := set_block (i := 3) HB1.out _
  have HVD3 : Hid (OwnB (w1.setCell ⟨cb, 3, none⟩ (.bool true)) 0 (.slice ao d.length ac) d) := HVD1.out.set _ H1.out
  have HVO3 : Hid (OwnB (w1.setCell ⟨cb, 3, none⟩ (.bool true)) 0 (.slice oo O.length oc) O) := HVO1.out.set _ H3.out
  have HYCB : Hid ((Value.slice yo Y.length yc).ownBlock ≠ some cb) := fun e => by have h1 := World.ownsRow.lt HY1.out cb e; omega
  have HY3 : Hid (OwnB (w1.setCell ⟨cb, 3, none⟩ (.bool true)) w.heap.size (.slice yo Y.length yc) Y) := HY1.out.set _ HYCB.out
  have HK3 : Hid (KeptBut w1 (w1.setCell ⟨cb, 3, none⟩ (.bool true)) [cb]) := (KeptBut.refl _ _).set (by simp) _
  have hs3 : (w1.setCell ⟨cb, 3, none⟩ (.bool true)).heap.size = w1.heap.size := set_size _ _ _
  have HCP : Hid _ := compressed2_calls parseOf parse_chosen parse_said compress_said ao d ac (w1.setCell ⟨cb, 3, none⟩ (.bool true)) (by omega) (own_cap HVD3.out).1 (ownB_bytes HVD3.out)
  go_wp2_with fail
  refine Calls.mono HCP.out ?_
  generalize w1.setCell ⟨cb, 3, none⟩ (.bool true) = w3 at *
  rintro r w4 ⟨hb4, vs, rfl, hvs⟩
  have hvs' := hvs hdl
  obtain ⟨so, sc, rfl⟩ := hvs'.form
  have hs4 := hb4.size
  have hs3' : w1.heap.size ≤ w3.heap.size := by omega
  have HS4 : Hid (OwnB w4 w3.heap.size (.slice so (streamOf parseOf d).length sc) (streamOf parseOf d)) := hvs'
  have HB4 : Hid (EBox w4 cb q (.slice ao d.length ac) (.slice oo O.length oc) true) := (hb4.block cb (by omega)).trans HB3.out
  have HVO4 : Hid (OwnB w4 0 (.slice oo O.length oc) O) := OwnB.below HVO3.out hb4
  have HY4 : Hid (OwnB w4 w.heap.size (.slice yo Y.length yc) Y) := OwnB.below HY3.out hb4
  have HK4 : Hid (KeptBut w1 w4 [cb]) := HK3.out.step (KeptBut.below (F := []) hb4) (fun i hi => by simp at hi)
  obtain ⟨⟨c0, c1, c2, c3⟩, f0, f1, f2, f3⟩ := quad_cell HB4.out
  have hcb4 : cb < w4.heap.size := by omega
  have hSl : (streamOf parseOf d).length ≤ 100000 := by
    have h1 := frames_chosen parse_chosen d _ (Nat.le_refl _)
    unfold streamOf
    rw [toBytes_length]
    unfold streamBits
    rw [toksOf_length] at h1 ⊢
    simp only [List.length_append, magic_length, endBits_length]
    unfold cutN at *
    omega
  have HOY : Hid (O ++ Y = streamOf parseOf d) := by
    show _ = _
    rw [← HOO.out, ← HYY.out, ← toBytes_append _ _ (sofar_full b d), HL.out]
    rfl
  have HGO : Hid _ := goes_calls cb q (.slice ao d.length ac) true oo yo so oc yc sc (streamOf parseOf d).length O Y (streamOf parseOf d) w4 HB4.out HVO4.out (OwnB.le HY4.out (Nat.zero_le _)) (OwnB.le HS4.out (Nat.zero_le _)) (fun k hk e => by
    have h1 := (World.ownsRow.lt HS4.out k e).1
    have h2 := (World.ownsRow.lt HVO.out k hk).2
    omega) (Nat.le_refl _) (by rw [HOY.out, List.take_length]) hSl
  clear hs3 hvs hvs' hb4 HCP HB3 HVD3 HVO3 HK3 HY3
  generalize (streamOf parseOf d).length = SL at *
  go_wp2_with (first | (go_at_call 36; go_in) | fail)
  refine Calls.mono HGO.out ?_
  rintro r w6 ⟨rfl, vo', hb6, ho6, hat6, hk6⟩
  have HFF : Hid (LWriteAns w w6 cb (cb :: q :: ((Value.slice ao d.length ac).ownBlock.toList ++ (Value.slice oo O.length oc).ownBlock.toList)) (.returned (.tuple #[.slice yo Y.length yc, .bool true]))) := by
    have hyb : ∀ k, (Value.slice yo Y.length yc).ownBlock = some k → w.heap.size ≤ k ∧ k < w1.heap.size := fun k hk => World.ownsRow.lt HY1.out k hk
    have hol : ∀ k, (Value.slice oo O.length oc).ownBlock = some k → k < w.heap.size := fun k hk => (World.ownsRow.lt HVO.out k hk).2
    refine ⟨_, Y, [cb, q], rfl, hk6.row HY4.out (fun k hk => ?_), ⟨q, _, vo', .inr ⟨hb6, ?_, rfl⟩⟩, fun k hk => .inl ?_, fun k hk => ?_, ((KeptBut.one HK1.out (by simp)).step HK4.out (fun i hi => .inl (by simp at hi; simp [hi]))).step hk6 (fun i hi => .inl ?_)⟩
    · have := hyb k hk
      simp only [List.mem_cons, Option.mem_toList, not_or]
      exact ⟨by omega, fun h => by have := hol k h; omega⟩
    · obtain ⟨x, y, z, hx⟩ := HE1.out
      refine ⟨x, y, z, ?_⟩
      show w6.heap[q]? = _
      rw [hk6.heap q (by omega) (by simp only [List.mem_cons, Option.mem_toList, not_or]; exact ⟨Ne.symm hcq, H4.out⟩), HK4.out.heap q (by omega) (by simp; omega)]
      exact hx
    · simp at hk
      rcases hk with rfl | rfl <;> simp
    · have := hyb k hk
      simp; omega
    · simp only [List.mem_cons, Option.mem_toList] at hi
      rcases hi with rfl | hi
      · simp
      · simp [hi]
  clear hb6 ho6 hat6 hk6 HGO
  go_wp2
  go_ret2
  rw [HOO.out]
  exact HFF.out
set_option maxHeartbeats 1000000 in
theorem lshut_shut (cb q : Nat) (vd vo : Value) (w : World) (F : List Nat) (hL : LEnc w cb F) (hbox : EBox w cb q vd vo true) (henc : EncShut w q) :
    Calls Tryz.prog 22 #[.pointer (some ⟨cb, 0, none⟩)] w fun r w' => LWriteAns w w' cb F r := by
  obtain ⟨⟨c0, c1, c2, c3⟩, _⟩ := quad_cell hbox
  have HF : Hid _ := eclose_shut q w henc
  have HANS : Hid (∀ nd, LWriteAns w (w.drewN nd) cb F (.returned (.tuple #[.slice none 0 0, .bool true]))) := fun nd =>
    ⟨.slice none 0 0, [], F, rfl, World.ownsRow_nil _ _ _ _, hL.kept (KeptBut.below (F := []) (below_drewN (Below.refl _ _) _)) (fun i _ => by simp), fun k hk => .inl hk, fun k hk => by simp [Value.ownBlock] at hk, KeptBut.below (below_drewN (Below.refl _ _) _)⟩
  clear hbox henc hL
  go_enter Tryz.func22, Tryz.ntmps22
  go_wp2_with fail
  refine Calls.mono HF.out ?_
  rintro r w1 ⟨rfl, rfl⟩
  clear HF
  go_wp2_with (first | (go_at_call 36; go_in) | fail)
  go_wp2
  go_ret2
  exact HANS.out 0
/-- Every Close of the law's Encoder. -/
theorem lshut_calls (cb : Nat) (F : List Nat) (w : World) (h : LEnc w cb F) :
    Calls Tryz.prog 22 #[.pointer (some ⟨cb, 0, none⟩)] w fun r w' => LWriteAns w w' cb F r := by
  have h' := h
  obtain ⟨q, vd, vo, ⟨d, b, h1, h2, h3, h4, h5, rfl⟩ | ⟨h1, h2, rfl⟩⟩ := h
  · exact lshut_live cb q vd vo d b w h1 h2 h3 h4 h5
  · exact lshut_shut cb q vd vo w _ h' h1 h2
end Go.Proofs.YtnpnaglgllcpfaaGreat
