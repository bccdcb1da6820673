/-
  Lemmas for the law All: Fd0, Fd1.
-/
import Derived.Test.YtnpnaglgllcpfaaGreatM10
import Derived.Test.YtnpnaglgllcpfaaGreatM14
import Derived.Test.YtnpnaglgllcpfaaGreatM16
/- The law's Decoder: what it holds, and a Feed of it. -/
namespace Go.Proofs.YtnpnaglgllcpfaaGreat
set_option maxRecDepth 100000
open Go.RowKit

/-- The law's decoder in block cb: the Decoder, what it was fed, how much came out, the error, was it ended. -/
abbrev LBox (w : World) (cb q : Nat) (va : Value) (out c : Int) (ended : Bool) : Prop := w.heap[cb]? = some (.cells #[.pointer (some ⟨q, 0, none⟩), va, .int .i64 out, .int .i64 c, .bool ended] 58 (0, 0))
/-- The law's decoder in block cb, which lies in the blocks F. -/
def LDec (w : World) (cb : Nat) (F : List Nat) : Prop := ∃ (q : Nat) (va : Value) (out c : Int),
  (∃ all fs e v, LBox w cb q va (dataOf fs).length 0 false ∧ DecAt w q v all fs e ∧ OwnB w 0 va all ∧ (∀ k, va.ownBlock = some k → v.ownBlock ≠ some k) ∧ F = cb :: q :: (va.ownBlock.toList ++ v.ownBlock.toList)) ∨
  (LBox w cb q va out c false ∧ DecBox w q true c 0 0 (.slice none 0 0) ∧ c ≠ 0 ∧ F = [cb, q]) ∨
  (LBox w cb q va out c true ∧ DecBox w q false 0 0 0 (.slice none 0 0) ∧ F = [cb, q])
theorem block_lt {w : World} {k : Nat} {o : Obj} (h : w.heap[k]? = some o) : k < w.heap.size := (Array.getElem?_eq_some_iff.1 h).1
theorem LDec.lt {w : World} {cb : Nat} {F : List Nat} (h : LDec w cb F) : cb ∈ F ∧ ∀ k ∈ F, k < w.heap.size := by
  obtain ⟨q, va, out, c, ⟨all, fs, e, v, h1, h2, h3, _, rfl⟩ | ⟨h1, h2, _, rfl⟩ | ⟨h1, h2, rfl⟩⟩ := h
  · refine ⟨by simp, fun k hk => ?_⟩
    simp only [List.mem_cons, List.mem_append, Option.mem_toList] at hk
    rcases hk with rfl | rfl | hk | hk
    · exact block_lt h1
    · exact h2.lt
    · exact (World.ownsRow.lt h3 k hk).2
    · obtain ⟨st, rest, _, hr, _⟩ := h2
      exact (World.ownsRow.lt hr k hk).2
  · refine ⟨by simp, fun k hk => ?_⟩
    simp only [List.mem_cons, List.not_mem_nil, or_false] at hk
    rcases hk with rfl | rfl
    · exact block_lt h1
    · exact block_lt h2
  · refine ⟨by simp, fun k hk => ?_⟩
    simp only [List.mem_cons, List.not_mem_nil, or_false] at hk
    rcases hk with rfl | rfl
    · exact block_lt h1
    · exact block_lt h2
/-- It is as it was where its blocks are. -/
theorem LDec.kept {w w' : World} {cb : Nat} {F G : List Nat} (h : LDec w cb F) (k : KeptBut w w' G) (hF : ∀ i ∈ F, i ∉ G) : LDec w' cb F := by
  have hlt := h.lt.2
  obtain ⟨q, va, out, c, ⟨all, fs, e, v, h1, ⟨st, rest, g1, g2, g3⟩, h3, h4, rfl⟩ | ⟨h1, h2, h3, rfl⟩ | ⟨h1, h2, rfl⟩⟩ := h
  · refine ⟨q, va, out, c, .inl ⟨all, fs, e, v, ?_, ⟨st, rest, ?_, k.row g2 (fun b hb => hF b (by simp [hb])), g3⟩, k.row h3 (fun b hb => hF b (by simp [hb])), h4, rfl⟩⟩
    · exact (k.heap cb (block_lt h1) (hF cb (by simp))).trans h1
    · exact (k.heap q (block_lt g1) (hF q (by simp))).trans g1
  · exact ⟨q, va, out, c, .inr (.inl ⟨(k.heap cb (block_lt h1) (hF cb (by simp))).trans h1, (k.heap q (block_lt h2) (hF q (by simp))).trans h2, h3, rfl⟩)⟩
  · exact ⟨q, va, out, c, .inr (.inr ⟨(k.heap cb (block_lt h1) (hF cb (by simp))).trans h1, (k.heap q (block_lt h2) (hF q (by simp))).trans h2, rfl⟩)⟩

/-- How the law's feed ends. -/
def LFeedAns (w w' : World) (cb : Nat) (F : List Nat) (r : Ending) : Prop :=
  ∃ vy y F', r = .returned (.tuple #[vy, .bool true]) ∧ OwnB w' w.heap.size vy y ∧ LDec w' cb F' ∧ (∀ k ∈ F', k ∈ F ∨ w.heap.size ≤ k) ∧ (∀ k, vy.ownBlock = some k → k ∉ F') ∧ KeptBut w w' F

/-- Feed of an open Decoder, its error as the law keeps it. -/
theorem feed_calls2 (q : Nat) (v : Value) (all p : List UInt8) (fs : List (List Tok × List UInt8)) (e : Int) (pa : Option Addr) (pc : Nat) (w : World) (h : DecAt w q v all fs e) (hp : BytesAt w pa p) (hpc : pa = none → p.length = 0 ∧ pc = 0) (hl : all.length + p.length ≤ 4096) :
    Calls Tryz.prog 43 #[.pointer (some ⟨q, 0, none⟩), .slice pa p.length pc] w fun r w' => OneKept w w' q ∧ ∃ fs' e' er vy, r = .returned (.tuple #[vy, .int .i64 er]) ∧ Told (all ++ p) (fs ++ fs') e' ∧ OwnB w' w.heap.size vy (dataOf fs') ∧ ((e' = 4 ∧ er = 0) ∨ (e' ≠ 4 ∧ er = e')) ∧
      (((e' = 0 ∨ e' = 4) ∧ ∃ v', DecAt w' q v' (all ++ p) (fs ++ fs') e' ∧ (∀ k, v'.ownBlock = some k → w.heap.size ≤ k ∧ vy.ownBlock ≠ some k)) ∨ (e' ≠ 0 ∧ e' ≠ 4 ∧ DecBox w' q true e' 0 0 (.slice none 0 0))) := by
  refine (feed_calls q v all p fs e pa pc w h hp hpc hl).mono ?_
  rintro r w' ⟨hk, fs', e', vy, ht, ho, ⟨he, rfl, v', h1, h2⟩ | ⟨h0, h4, rfl, h1⟩⟩
  · refine ⟨hk, fs', e', 0, vy, rfl, ht, ho, ?_, .inl ⟨he, v', h1, h2⟩⟩
    rcases he with rfl | rfl
    · exact .inr ⟨by decide, rfl⟩
    · exact .inl ⟨rfl, rfl⟩
  · exact ⟨hk, fs', e', e', vy, rfl, ht, ho, .inr ⟨h4, rfl⟩, .inr ⟨h0, h4, h1⟩⟩

theorem cellOf_ne {w : World} {B n z k : Nat} {e t : TypeId} {v : Value} {xs : List Value} {cs : Array Value} {m : Nat × Nat} (h : w.ownsRow B e z v n xs) (hk : w.heap[k]? = some (.cells cs t m)) (hne : e ≠ t) : v.ownBlock ≠ some k := fun h' => by
  rcases h.2 with ⟨h2, _⟩ | ⟨g, cap, cur, h2, _, hg, _⟩
  · rw [h2] at h'; simp [Value.ownBlock] at h'
  · rw [h2] at h'
    simp [Value.ownBlock] at h'
    subst h'
    rw [hk] at hg
    simp at hg
    exact hne hg.2.1.symm
/-- What the law's feed leaves, of an open Decoder. -/
theorem lfeed_fin {w w1 w2 W : World} {cb q : Nat} {va v va' vy : Value} {all AP Y : List UInt8} {fs fs' : List (List Tok × List UInt8)} {e' c' : Int} (hcb : cb < w.heap.size) (hq : q < w.heap.size) (hcq : cb ≠ q) (hk1 : OneKept w w1 q) (hva : OwnB w1 0 va all) (hab : ∀ k, va.ownBlock = some k → k < w.heap.size)
    (hg2 : w1.grownBy w2 va.ownBlock) (hat : va'.ownBlock = va.ownBlock ∨ va'.ownBlock = some w1.heap.size) (hva2 : OwnB w2 0 va' AP) (hkW : KeptBut w2 W [cb]) (hbx1 : ∃ x o c d, LBox w1 cb q x o c d) (hbxW : LBox W cb q va' (dataOf (fs ++ fs')).length c' false) (hc : (e' = 4 ∧ c' = 0) ∨ (e' ≠ 4 ∧ c' = e'))
    (hy : OwnB w1 w.heap.size vy Y) (hqx : ∃ a b c d e, w1.heap[q]? = some (.cells #[a, b, c, d, e] 86 (0, 0)))
    (hnx : ((e' = 0 ∨ e' = 4) ∧ ∃ v', DecAt w1 q v' AP (fs ++ fs') e' ∧ (∀ k, v'.ownBlock = some k → w.heap.size ≤ k ∧ vy.ownBlock ≠ some k)) ∨ (e' ≠ 0 ∧ e' ≠ 4 ∧ DecBox w1 q true e' 0 0 (.slice none 0 0))) :
    LFeedAns w W cb (cb :: q :: (va.ownBlock.toList ++ v.ownBlock.toList)) (.returned (.tuple #[vy, .bool true])) := by
  have hs1 := hk1.size
  have hs2 := hg2.size
  have hyb : ∀ k, vy.ownBlock = some k → w.heap.size ≤ k ∧ k < w1.heap.size := fun k hk => World.ownsRow.lt hy k hk
  obtain ⟨x, o, c, d, hbx1⟩ := hbx1
  obtain ⟨qa, qb, qc, qd, qe, hqx⟩ := hqx
  have hvcb : va.ownBlock ≠ some cb := cellOf_ne hva hbx1 (by decide)
  have hvq : va.ownBlock ≠ some q := cellOf_ne hva hqx (by decide)
  have hva'cb : ∀ k, va'.ownBlock = some k → k ≠ cb := fun k hk e => by
    subst e
    rcases hat with h | h
    · exact hvcb (h.symm.trans hk)
    · rw [h] at hk; simp at hk; omega
  have hg2' : KeptBut w1 w2 (cb :: q :: (va.ownBlock.toList ++ v.ownBlock.toList)) := KeptBut.grown hg2 (fun k hk => by simp [hk])
  have hkept : KeptBut w W (cb :: q :: (va.ownBlock.toList ++ v.ownBlock.toList)) :=
    ((KeptBut.one hk1 (by simp)).step hg2' (fun i hi => .inl hi)).step hkW (fun i hi => .inl (by simp at hi; simp [hi]))
  have hyW : OwnB W w.heap.size vy Y := hkW.row (World.ownsRow.kept hy hg2 (by
    cases h : vy.ownBlock with
    | none => exact .inl rfl
    | some k => exact .inr (fun e => by have := hyb k h; have := hab k e.symm; omega))) (fun b hb => by have := hyb b hb; simp; omega)
  have hvaW : OwnB W 0 va' AP := hkW.row hva2 (fun b hb => by have := hva'cb b hb; simpa using this)
  have hqW : W.heap[q]? = w1.heap[q]? := by
    rw [hkW.heap q (by omega) (by simp; omega), hg2.block q (by omega) (fun e => hvq e.symm)]
  rcases hnx with ⟨he, v', hd, hv'⟩ | ⟨h0, h4, hd⟩
  · have hc0 : c' = 0 := by omega
    subst hc0
    have hv'lt : ∀ k, v'.ownBlock = some k → k < w1.heap.size := fun k hk => by
      obtain ⟨st, rest, _, hr, _⟩ := hd
      exact (World.ownsRow.lt hr k hk).2
    have hdW : DecAt W q v' AP (fs ++ fs') e' := by
      obtain ⟨st, rest, g1, g2, g3⟩ := hd
      refine ⟨st, rest, hqW.trans g1, hkW.row (World.ownsRow.kept g2 hg2 ?_) (fun b hb => by have := hv' b hb; simp; omega), g3⟩
      cases h : v'.ownBlock with
      | none => exact .inl rfl
      | some k => exact .inr (fun e => by have := (hv' k h).1; have := hab k e.symm; omega)
    refine ⟨vy, Y, cb :: q :: (va'.ownBlock.toList ++ v'.ownBlock.toList), rfl, hyW, ⟨q, va', 0, 0, .inl ⟨AP, fs ++ fs', e', v', hbxW, hdW, hvaW, fun k hk e => ?_, rfl⟩⟩, fun k hk => ?_, fun k hk => ?_, hkept⟩
    · have h1 := hv' k e
      have h2 := hv'lt k e
      rcases hat with h | h
      · have := hab k (h.symm.trans hk); omega
      · rw [h] at hk; simp at hk; omega
    · simp only [List.mem_cons, List.mem_append, Option.mem_toList] at hk
      rcases hk with rfl | rfl | hk | hk
      · exact .inl (by simp)
      · exact .inl (by simp)
      · rcases hat with h | h
        · left; have := h.symm.trans hk; simp [this]
        · rw [h] at hk; simp at hk; right; omega
      · exact .inr (hv' k hk).1
    · have h1 := hyb k hk
      simp only [List.mem_cons, List.mem_append, Option.mem_toList, not_or]
      refine ⟨by omega, by omega, fun h => ?_, fun h => (hv' k h).2 hk⟩
      rcases hat with g | g
      · have := hab k (g.symm.trans h); omega
      · rw [g] at h; simp at h; omega
  · have hc0 : c' = e' := by omega
    subst hc0
    refine ⟨vy, Y, [cb, q], rfl, hyW, ⟨q, va', _, c', .inr (.inl ⟨hbxW, hqW.trans hd, h0, rfl⟩)⟩, fun k hk => ?_, fun k hk => ?_, hkept⟩
    · simp at hk
      rcases hk with rfl | rfl
      · exact .inl (by simp)
      · exact .inl (by simp)
    · have h1 := hyb k hk
      simp
      omega

/-- What lies behind a place of an owned row. -/
theorem own_tail {W : World} {B : Nat} {Do : Option Addr} {Dc : Nat} {D : List UInt8} (h : OwnB W B (.slice Do D.length Dc) D) (k : Nat) :
    (Do = none ∧ Dc = 0 ∧ D = []) ∨ ∃ g, Do = some ⟨g, 0, none⟩ ∧ D.length ≤ Dc ∧ BytesAt W (some ⟨g, k, none⟩) (D.drop k) := by
  rcases h.2 with ⟨h1, h2⟩ | ⟨g, cap, cur, h1, _, _, hl, _⟩
  · simp at h1
    exact .inl ⟨h1.1, h1.2.2, List.eq_nil_of_length_eq_zero h2⟩
  · simp at h1
    obtain ⟨rfl, rfl⟩ := h1
    refine .inr ⟨g, rfl, hl, ?_⟩
    rcases Nat.eq_zero_or_pos D.length with h0 | h0
    · obtain rfl : D = [] := List.eq_nil_of_length_eq_zero h0
      exact .inl (by simp)
    · obtain ⟨g', c', h1, _, _, h2⟩ := h.at h0
      simp at h1
      have := BytesAt.behind (w := W) (b := g) (off := 0) (l := D) (fun i hi => by rw [Nat.zero_add, h1.1]; exact h2 i hi) k
      rwa [Nat.zero_add] at this
set_option maxHeartbeats 4000000 in
theorem lfeed_live (cb q : Nat) (va v : Value) (all p : List UInt8) (fs : List (List Tok × List UInt8)) (e : Int) (pa : Option Addr) (pc : Nat) (w : World) (hbox : LBox w cb q va (dataOf fs).length 0 false) (hdec : DecAt w q v all fs e) (hva : OwnB w 0 va all) (hne : ∀ k, va.ownBlock = some k → v.ownBlock ≠ some k)
    (hp : BytesAt w pa p) (hpc : pa = none → p.length = 0 ∧ pc = 0) (hpF : 0 < p.length → ∀ b off, pa = some ⟨b, off, none⟩ → b ∉ cb :: q :: (va.ownBlock.toList ++ v.ownBlock.toList)) (hl : all.length + p.length ≤ 4096) :
    Calls Tryz.prog 20 #[.pointer (some ⟨cb, 0, none⟩), .slice pa p.length pc] w fun r w' => LFeedAns w w' cb (cb :: q :: (va.ownBlock.toList ++ v.ownBlock.toList)) r := by
  obtain ⟨⟨c0, c1, c2, c3, c4⟩, f0, f1, f2, f3, f4⟩ := penta_cell hbox
  obtain ⟨ao, ac, rfl⟩ := hva.form
  have HAB : Hid (∀ k, (Value.slice ao all.length ac).ownBlock = some k → k < w.heap.size) := fun k hk => (World.ownsRow.lt hva k hk).2
  have HBOX : Hid _ := hbox
  have HF : Hid _ := feed_calls2 q v all p fs e pa pc w hdec hp hpc hl
  have hcb := block_lt hbox
  have hq := hdec.lt
  have hcq : cb ≠ q := by
    rintro rfl
    obtain ⟨st, rest, h1, _⟩ := hdec
    unfold LBox at hbox
    rw [h1] at hbox
    simp at hbox
  clear hbox
  go_enter Tryz.func20, Tryz.ntmps20
  go_wp2_with fail
  refine Calls.mono HF.out ?_
  rintro r w1 ⟨hk1, fs', e', er, vy, rfl, htold, hvy, her, hnext⟩
  obtain ⟨yo, yc, rfl⟩ := hvy.form
  have hs1 := hk1.size
  have HK1 : Hid (OneKept w w1 q) := hk1
  have HBX1 : Hid (LBox w1 cb q (.slice ao all.length ac) (dataOf fs).length 0 false) := (hk1.heap cb hcb hcq).trans HBOX.out
  have HAQ : Hid ((Value.slice ao all.length ac).ownBlock ≠ some q) := fun h => by
    obtain ⟨st, rest, h1, _⟩ := hdec
    rcases hva.2 with ⟨h2, _⟩ | ⟨g, cap, cur, h2, _, hg, _⟩
    · rw [h2] at h; simp [Value.ownBlock] at h
    · rw [h2] at h
      simp [Value.ownBlock] at h
      subst h
      unfold DecBox at h1
      rw [h1] at hg
      simp at hg
  have HVA1 : Hid (OwnB w1 0 (.slice ao all.length ac) all) := World.ownsRow.kept hva hk1.grown (by cases h : (Value.slice ao all.length ac).ownBlock with | none => exact .inl rfl | some k => exact .inr (fun e => HAQ.out (h.trans e)))
  have HP1 : Hid (BytesAt w1 pa p) := by
    rcases hp with h | ⟨b, off, h1, h2⟩
    · exact .inl h
    · rcases Nat.eq_zero_or_pos p.length with h0 | h0
      · exact .inl (List.eq_nil_of_length_eq_zero h0)
      · refine .inr ⟨b, off, h1, fun i hi => ?_⟩
        rw [cell_heap (hk1.heap b (World.block_lt_of_cell? w _ (h2 i hi)) (fun e => hpF h0 b off h1 (by simp [e])))]
        exact h2 i hi
  have HY1 : Hid (OwnB w1 w.heap.size (.slice yo (dataOf fs').length yc) (dataOf fs')) := hvy
  obtain ⟨ends, hread⟩ := htold.read (by rw [List.length_append]; exact hl)
  have HRD : Hid (rRead (all ++ p) = (e', psOf (fs ++ fs'), dataOf (fs ++ fs'), ends)) := hread
  have HDD : Hid (dataOf (fs ++ fs') = dataOf fs ++ dataOf fs') := by show _ = _; simp [dataOf]
  have HNX : Hid _ := hnext
  have HER : Hid _ := her
  have HPF : Hid _ := hpF
  have HNE : Hid _ := hne
  have HPC : Hid _ := hpc
  have HDEC : Hid _ := hdec
  obtain ⟨⟨c0, c1, c2, c3, c4⟩, f0, f1, f2, f3, f4⟩ := penta_cell HBX1.out
  have hcb1 : cb < w1.heap.size := by omega
  have hal : all.length ≤ 4096 := by omega
  have hlb : ¬ (4096 : Int) < (all.length : Int) + (p.length : Int) := by omega
  clear HF hk1 hvy htold hread her hnext hpF hne hva hp hpc hdec
  generalize hDO : (dataOf fs).length = dO at *
  generalize hYD : dataOf fs' = Y at *
  have HDO : Hid _ := hDO
  have HYD : Hid _ := hYD
  clear hDO hYD
  go_wp2_with (at_builtin; refine wpList_append_at rfl _ _ rfl 0 _ all rfl HVA1.out pa p pc rfl HP1.out HPC.out ?b1 (Nat.zero_le _) ?_)
  case b1 => omega
  intro va' w2 hva2 hg2 hat2
  obtain ⟨ao', ac', rfl⟩ := hva2.form
  have hs2 := hg2.size
  have HACB : Hid ((Value.slice ao all.length ac).ownBlock ≠ some cb) := fun h => by
    rcases HVA1.out.2 with ⟨h2, _⟩ | ⟨g, cap, cur, h2, _, hg, _⟩
    · rw [h2] at h; simp [Value.ownBlock] at h
    · rw [h2] at h
      simp [Value.ownBlock] at h
      subst h
      have h1 := HBX1.out
      unfold LBox at h1
      rw [h1] at hg
      simp at hg
  have HBX2 : Hid (LBox w2 cb q (.slice ao all.length ac) dO 0 false) := (hg2.block cb hcb1 (fun h => HACB.out h.symm)).trans HBX1.out
  have hcb2 : cb < w2.heap.size := by omega
  have HVA2 : Hid (OwnB w2 0 (.slice ao' (all ++ p).length ac') (all ++ p)) := hva2
  have HG2 : Hid _ := hg2
  have HAT2 : Hid _ := hat2
  have hlap : (all ++ p).length ≤ 4096 := by rw [List.length_append]; exact hl
  have HYB : Hid (∀ k, (Value.slice yo Y.length yc).ownBlock = some k → w.heap.size ≤ k ∧ k < w1.heap.size) := fun k hk => World.ownsRow.lt HY1.out k hk
  generalize hAP : all ++ p = AP at *
  have HAP : Hid (all ++ p = AP) := hAP
  clear hAP hva2 hg2 hat2
  obtain ⟨⟨c0, c1, c2, c3, c4⟩, f0, f1, f2, f3, f4⟩ := penta_cell HBX2.out
  have HQX1 : Hid (∃ a b c d e, w1.heap[q]? = some (.cells #[a, b, c, d, e] 86 (0, 0))) := by
    rcases HNX.out with ⟨_, v', ⟨st, rest, g1, _⟩, _⟩ | ⟨_, _, g1⟩
    · exact ⟨_, _, _, _, _, g1⟩
    · exact ⟨_, _, _, _, _, g1⟩
  have HA'CB : Hid ((Value.slice ao' AP.length ac').ownBlock ≠ some cb) := cellOf_ne HVA2.out HBX2.out (by decide)
  have HBX3 : Hid (LBox (w2.setCell ⟨cb, 1, none⟩ (.slice ao' AP.length ac')) cb q (.slice ao' AP.length ac') dO 0 false) := set_block (i := 1) HBX2.out _
  have HVA3 : Hid (OwnB (w2.setCell ⟨cb, 1, none⟩ (.slice ao' AP.length ac')) 0 (.slice ao' AP.length ac') AP) := HVA2.out.set _ HA'CB.out
  have HK3 : Hid (KeptBut w2 (w2.setCell ⟨cb, 1, none⟩ (.slice ao' AP.length ac')) [cb]) := (KeptBut.refl _ _).set (by simp) _
  have hs3 : (w2.setCell ⟨cb, 1, none⟩ (.slice ao' AP.length ac')).heap.size = w2.heap.size := set_size _ _ _
  have HRC : Hid _ := read_calls ao' AP ac' (w2.setCell ⟨cb, 1, none⟩ (.slice ao' AP.length ac')) (by omega) (OwnB.bytes HVA3.out)
  go_wp2_with fail
  refine Calls.mono HRC.out ?_
  generalize w2.setCell ⟨cb, 1, none⟩ (.slice ao' AP.length ac') = w3 at *
  rintro r w4 ⟨hb4, rfl, L, n, vP, vD, vE, ht4, hl4⟩
  rw [HRD.out] at ht4 hl4
  have hs4 := hb4.size
  have HS3 : Hid (w3.heap.size = w2.heap.size) := hs3
  have hs3' : w2.heap.size ≤ w3.heap.size := by omega
  clear hs3
  have HBX4 : Hid (LBox w4 cb q (.slice ao' AP.length ac') dO 0 false) := (hb4.block cb (by omega)).trans HBX3.out
  have HK4 : Hid (KeptBut w2 w4 [cb]) := HK3.out.step (KeptBut.below (F := []) hb4) (fun i hi => by simp at hi)
  have HD4 : Hid (OwnB w4 (w3.heap.size + 1) vD (dataOf (fs ++ fs'))) := hl4.data
  obtain ⟨Do, Dc, rfl⟩ := hl4.data.form
  obtain ⟨⟨_, _, t2⟩, _⟩ := ht4.cell
  obtain ⟨⟨_, t4, _⟩, _⟩ := ht4.lists
  have hqt : w3.heap.size < w4.heap.size := ht4.lt
  obtain ⟨⟨c0, c1, c2, c3, c4⟩, f0, f1, f2, f3, f4⟩ := penta_cell HBX4.out
  have hcb4 : cb < w4.heap.size := by omega
  have hne4 : ¬ w3.heap.size = cb := by omega
  have HDL : Hid ((dataOf (fs ++ fs')).length = dO + Y.length) := by show _ = _; rw [HDD.out, List.length_append, HDO.out]
  have HDR : Hid ((dataOf (fs ++ fs')).drop dO = Y) := by show _ = _; rw [HDD.out, ← HDO.out, List.drop_left]
  have HY4 : Hid (OwnB w4 w.heap.size (.slice yo Y.length yc) Y) := HK4.out.row (World.ownsRow.kept HY1.out HG2.out (by
    cases h : (Value.slice yo Y.length yc).ownBlock with
    | none => exact .inl rfl
    | some k => exact .inr (fun e => by have := HYB.out k h; have := HAB.out k e.symm; omega))) (fun b hb => by have := HYB.out b hb; simp; omega)
  have HYCB : Hid ((Value.slice yo Y.length yc).ownBlock ≠ some cb) := fun h => by have := HYB.out cb h; omega
  have HDCB : Hid ((Value.slice Do (dataOf (fs ++ fs')).length Dc).ownBlock ≠ some cb) := fun h => by have := (World.ownsRow.lt HD4.out cb h).1; omega
  have HFIN : Hid (∀ W c', KeptBut w4 W [cb] → LBox W cb q (.slice ao' AP.length ac') (dataOf (fs ++ fs')).length c' false → ((e' = 4 ∧ c' = 0) ∨ (e' ≠ 4 ∧ c' = e')) → ∀ nd, LFeedAns w (W.drewN nd) cb (cb :: q :: ((Value.slice ao all.length ac).ownBlock.toList ++ v.ownBlock.toList)) (.returned (.tuple #[.slice yo Y.length yc, .bool true]))) := fun W c' h1 h2 h3 nd =>
    lfeed_fin (W := W.drewN nd) hcb hq hcq HK1.out HVA1.out HAB.out HG2.out HAT2.out HVA2.out ((HK4.out.trans h1).trans (KeptBut.below (below_drewN (Below.refl _ _) _))) ⟨_, _, _, _, HBX1.out⟩ h2 h3 HY1.out HQX1.out HNX.out
  have hDlen : (dataOf (fs ++ fs')).length = dO + Y.length := HDL.out
  generalize hDD : dataOf (fs ++ fs') = D at *
  have HDDD : Hid _ := hDD
  clear hDD HRC HNX HDD HK1 HVA1 HG2 HAT2 HVA2 HBX1 HBX2 HBX3 HVA3 HRD HP1 HPF HNE HDEC HPC HBOX ht4 hl4 HQX1
  clear hb4
  by_cases h4 : e' = 4
  · have her : er = 0 := by have := HER.out; omega
    subst her h4
    have HBXF : Hid _ := set_block (i := 2) HBX4.out (.int .i64 D.length)
    have HFF : Hid (∀ m, _) := fun m => HFIN.out ((w4.drewN m).setCell ⟨cb, 2, none⟩ (.int .i64 D.length)) 0 ((KeptBut.below (below_drewN (Below.refl _ _) m)).set (by simp) _) HBXF.out (.inl ⟨rfl, rfl⟩)
    have HYF : Hid (OwnB (w4.setCell ⟨cb, 2, none⟩ (.int .i64 D.length)) w.heap.size (.slice yo Y.length yc) Y) := HY4.out.set _ HYCB.out
    have HDF : Hid (OwnB (w4.setCell ⟨cb, 2, none⟩ (.int .i64 D.length)) (w3.heap.size + 1) (.slice Do D.length Dc) D) := HD4.out.set _ HDCB.out
    have k1 : ∀ m n, (convert 37 9 (.slice yo Y.length yc)).run Tryz.prog (((w4.drewN m).setCell ⟨cb, 2, none⟩ (.int .i64 D.length)).drewN n) = .ok (.string ⟨Y.toArray⟩) (((w4.drewN m).setCell ⟨cb, 2, none⟩ (.int .i64 D.length)).drewN n) := fun m n => conv_drew (w := (w4.drewN m).setCell ⟨cb, 2, none⟩ (.int .i64 D.length)) HYF.out n
    have hDle : dO ≤ D.length := by omega
    clear hDlen
    rcases own_tail HDF.out dO with ⟨rfl, rfl, hDn⟩ | ⟨g, rfl, hDc, hwant⟩
    · have hd0 : dO = 0 := by rw [hDn] at hDle; simp at hDle; exact hDle
      have hY : Y = [] := List.eq_nil_of_length_eq_zero (by have := HDL.out; rw [hDn] at this; simp at this; omega)
      have hD0 : D.length = 0 := by rw [hDn]; rfl
      subst hd0 hY
      have k2 : ∀ m n, (convert 37 9 (.slice none 0 0)).run Tryz.prog (((w4.drewN m).setCell ⟨cb, 2, none⟩ (.int .i64 D.length)).drewN n) = .ok (.string ⟨#[]⟩) (((w4.drewN m).setCell ⟨cb, 2, none⟩ (.int .i64 D.length)).drewN n) := fun m n => conv_bytes (p := []) 0 (.inl rfl)
      have e0 : (D.length : Int) = 0 := by rw [hDn]; rfl
      rw [e0] at k1 k2
      simp only [List.length_nil] at k1
      clear hDn
      go_wp2_with fail
      go_quiet (fail)
      go_wp2_with fail
      go_quiet ((go_at_call 36; exact Calls.quiet_of_same (num_calls _ _)))
      go_wp2
      go_ret2
      have := HFF.out
      rw [e0] at this
      exact this _ _
    · by_cases hcd : Dc = dO
      · have hY : Y = [] := List.eq_nil_of_length_eq_zero (by have := HDL.out; omega)
        subst hY
        have hb1 : (0 : Int) ≤ (dO : Int) ∧ (dO : Int) ≤ (D.length : Int) ∧ (D.length : Int) ≤ (Dc : Int) := by omega
        have hm0 : D.length - dO = 0 := by omega
        have k2 : ∀ m n, (convert 37 9 (.slice (some ⟨g, 0, none⟩) 0 0)).run Tryz.prog (((w4.drewN m).setCell ⟨cb, 2, none⟩ (.int .i64 D.length)).drewN n) = .ok (.string ⟨#[]⟩) (((w4.drewN m).setCell ⟨cb, 2, none⟩ (.int .i64 D.length)).drewN n) := fun m n => conv_bytes (p := []) 0 (.inl rfl)
        simp only [List.length_nil] at k1
        go_wp2_with fail
        go_quiet (fail)
        go_wp2_with fail
        go_quiet ((go_at_call 36; exact Calls.quiet_of_same (num_calls _ _)))
        go_wp2
        go_ret2
        exact HFF.out _ _
      · have hb1 : (0 : Int) ≤ (dO : Int) ∧ (dO : Int) ≤ (D.length : Int) ∧ (D.length : Int) ≤ (Dc : Int) := by omega
        have k2 : ∀ m n, (convert 37 9 (.slice (some ⟨g, dO, none⟩) (D.length - dO) (Dc - dO))).run Tryz.prog (((w4.drewN m).setCell ⟨cb, 2, none⟩ (.int .i64 D.length)).drewN n) = .ok (.string ⟨Y.toArray⟩) (((w4.drewN m).setCell ⟨cb, 2, none⟩ (.int .i64 D.length)).drewN n) := fun m n => by
          have := conv_bytes (w := ((w4.drewN m).setCell ⟨cb, 2, none⟩ (.int .i64 D.length)).drewN n) (Dc - dO) hwant
          rw [List.length_drop] at this
          rw [this, HDR.out]
        clear hwant
        go_wp2_with fail
        go_quiet (fail)
        go_wp2_with fail
        go_quiet ((go_at_call 36; exact Calls.quiet_of_same (num_calls _ _)))
        go_wp2
        go_ret2
        exact HFF.out _ _
  · have her : er = e' := by have := HER.out; omega
    subst her
    have h4b : (er != 4) = true := by simpa using h4
    have H4 : Hid (er ≠ 4) := h4
    clear h4
    have HBXF : Hid _ := set_block (i := 2) (set_block (i := 3) HBX4.out (.int .i64 er)) (.int .i64 D.length)
    have HFF : Hid (∀ m, _) := fun m => HFIN.out (((w4.setCell ⟨cb, 3, none⟩ (.int .i64 er)).drewN m).setCell ⟨cb, 2, none⟩ (.int .i64 D.length)) er ((((KeptBut.refl w4 [cb]).set (by simp) _).trans (KeptBut.below (below_drewN (Below.refl _ _) m))).set (by simp) _) HBXF.out (.inr ⟨H4.out, rfl⟩)
    have HYF : Hid (OwnB ((w4.setCell ⟨cb, 3, none⟩ (.int .i64 er)).setCell ⟨cb, 2, none⟩ (.int .i64 D.length)) w.heap.size (.slice yo Y.length yc) Y) := (HY4.out.set _ HYCB.out).set _ HYCB.out
    have HDF : Hid (OwnB ((w4.setCell ⟨cb, 3, none⟩ (.int .i64 er)).setCell ⟨cb, 2, none⟩ (.int .i64 D.length)) (w3.heap.size + 1) (.slice Do D.length Dc) D) := (HD4.out.set _ HDCB.out).set _ HDCB.out
    have k1 : ∀ m n, (convert 37 9 (.slice yo Y.length yc)).run Tryz.prog ((((w4.setCell ⟨cb, 3, none⟩ (.int .i64 er)).drewN m).setCell ⟨cb, 2, none⟩ (.int .i64 D.length)).drewN n) = .ok (.string ⟨Y.toArray⟩) ((((w4.setCell ⟨cb, 3, none⟩ (.int .i64 er)).drewN m).setCell ⟨cb, 2, none⟩ (.int .i64 D.length)).drewN n) := fun m n => conv_drew (w := ((w4.setCell ⟨cb, 3, none⟩ (.int .i64 er)).drewN m).setCell ⟨cb, 2, none⟩ (.int .i64 D.length)) HYF.out n
    have hDle : dO ≤ D.length := by omega
    clear hDlen
    rcases own_tail HDF.out dO with ⟨rfl, rfl, hDn⟩ | ⟨g, rfl, hDc, hwant⟩
    · have hd0 : dO = 0 := by rw [hDn] at hDle; simp at hDle; exact hDle
      have hY : Y = [] := List.eq_nil_of_length_eq_zero (by have := HDL.out; rw [hDn] at this; simp at this; omega)
      have hD0 : D.length = 0 := by rw [hDn]; rfl
      subst hd0 hY
      have k2 : ∀ m n, (convert 37 9 (.slice none 0 0)).run Tryz.prog ((((w4.setCell ⟨cb, 3, none⟩ (.int .i64 er)).drewN m).setCell ⟨cb, 2, none⟩ (.int .i64 D.length)).drewN n) = .ok (.string ⟨#[]⟩) ((((w4.setCell ⟨cb, 3, none⟩ (.int .i64 er)).drewN m).setCell ⟨cb, 2, none⟩ (.int .i64 D.length)).drewN n) := fun m n => conv_bytes (p := []) 0 (.inl rfl)
      have e0 : (D.length : Int) = 0 := by rw [hDn]; rfl
      rw [e0] at k1 k2
      simp only [List.length_nil] at k1
      clear hDn
      go_wp2_with fail
      go_quiet (fail)
      go_wp2_with fail
      go_quiet ((go_at_call 36; exact Calls.quiet_of_same (num_calls _ _)))
      go_wp2
      go_ret2
      have := HFF.out
      rw [e0] at this
      exact this _ _
    · by_cases hcd : Dc = dO
      · have hY : Y = [] := List.eq_nil_of_length_eq_zero (by have := HDL.out; omega)
        subst hY
        have hb1 : (0 : Int) ≤ (dO : Int) ∧ (dO : Int) ≤ (D.length : Int) ∧ (D.length : Int) ≤ (Dc : Int) := by omega
        have hm0 : D.length - dO = 0 := by omega
        have k2 : ∀ m n, (convert 37 9 (.slice (some ⟨g, 0, none⟩) 0 0)).run Tryz.prog ((((w4.setCell ⟨cb, 3, none⟩ (.int .i64 er)).drewN m).setCell ⟨cb, 2, none⟩ (.int .i64 D.length)).drewN n) = .ok (.string ⟨#[]⟩) ((((w4.setCell ⟨cb, 3, none⟩ (.int .i64 er)).drewN m).setCell ⟨cb, 2, none⟩ (.int .i64 D.length)).drewN n) := fun m n => conv_bytes (p := []) 0 (.inl rfl)
        simp only [List.length_nil] at k1
        go_wp2_with fail
        go_quiet (fail)
        go_wp2_with fail
        go_quiet ((go_at_call 36; exact Calls.quiet_of_same (num_calls _ _)))
        go_wp2
        go_ret2
        exact HFF.out _ _
      · have hb1 : (0 : Int) ≤ (dO : Int) ∧ (dO : Int) ≤ (D.length : Int) ∧ (D.length : Int) ≤ (Dc : Int) := by omega
        have k2 : ∀ m n, (convert 37 9 (.slice (some ⟨g, dO, none⟩) (D.length - dO) (Dc - dO))).run Tryz.prog ((((w4.setCell ⟨cb, 3, none⟩ (.int .i64 er)).drewN m).setCell ⟨cb, 2, none⟩ (.int .i64 D.length)).drewN n) = .ok (.string ⟨Y.toArray⟩) ((((w4.setCell ⟨cb, 3, none⟩ (.int .i64 er)).drewN m).setCell ⟨cb, 2, none⟩ (.int .i64 D.length)).drewN n) := fun m n => by
          have := conv_bytes (w := (((w4.setCell ⟨cb, 3, none⟩ (.int .i64 er)).drewN m).setCell ⟨cb, 2, none⟩ (.int .i64 D.length)).drewN n) (Dc - dO) hwant
          rw [List.length_drop] at this
          rw [this, HDR.out]
        clear hwant
        go_wp2_with fail
        go_quiet (fail)
        go_wp2_with fail
        go_quiet ((go_at_call 36; exact Calls.quiet_of_same (num_calls _ _)))
        go_wp2
        go_ret2
        exact HFF.out _ _
end Go.Proofs.YtnpnaglgllcpfaaGreat

/- The law's Decoder: every Feed, every End; a Decoder that is none. -/
namespace Go.Proofs.YtnpnaglgllcpfaaGreat
set_option maxRecDepth 100000
open Go.RowKit

theorem lbox_ne {w : World} {cb q : Nat} {va : Value} {out c : Int} {b : Bool} {cs : Array Value} (h : LBox w cb q va out c b) (h1 : w.heap[q]? = some (.cells cs 86 (0, 0))) : cb ≠ q := by
  rintro rfl
  unfold LBox at h
  rw [h1] at h
  simp at h

set_option maxHeartbeats 1000000 in
theorem lfeed_long (cb q : Nat) (va v : Value) (all : List UInt8) (fs : List (List Tok × List UInt8)) (e : Int) (pa : Option Addr) (pn pc : Nat) (w : World) (F : List Nat) (hF : cb ∈ F ∧ q ∈ F) (hbox : LBox w cb q va (dataOf fs).length 0 false) (hdec : DecAt w q v all fs e) (hva : OwnB w 0 va all) (hl : 4096 < all.length + pn) (hpn : pn ≤ 140737488355328) :
    Calls Tryz.prog 20 #[.pointer (some ⟨cb, 0, none⟩), .slice pa pn pc] w fun r w' => LFeedAns w w' cb F r := by
  obtain ⟨⟨c0, c1, c2, c3, c4⟩, _⟩ := penta_cell hbox
  obtain ⟨ao, ac, rfl⟩ := hva.form
  have HF : Hid _ := feed_long_calls q v all fs e pa pn pc w hdec hl
  have hcb := block_lt hbox
  have hq := hdec.lt
  have hcq : cb ≠ q := by obtain ⟨st, rest, h1, _⟩ := hdec; exact lbox_ne hbox h1
  have hal : all.length ≤ 4096 := by obtain ⟨st, rest, _, _, _, _, _, _, h, _⟩ := hdec; exact h
  have HBOX : Hid _ := hbox
  have HFF : Hid _ := hF
  clear hbox hdec hva hF
  go_enter Tryz.func20, Tryz.ntmps20
  go_wp2_with fail
  refine Calls.mono HF.out ?_
  rintro r w1 ⟨rfl, hd1, hk1⟩
  have hbx1 : LBox w1 cb q (.slice ao all.length ac) (dataOf fs).length 0 false := (hk1.heap cb hcb hcq).trans HBOX.out
  obtain ⟨⟨c0, c1, c2, c3, c4⟩, f0, f1, f2, f3, f4⟩ := penta_cell hbx1
  have hlb : (4096 : Int) < (all.length : Int) + (pn : Int) := by omega
  have hs1 := hk1.size
  have hb2 := set_block (i := 3) hbx1 (.int .i64 1)
  have hd2 : DecBox (w1.setCell ⟨cb, 3, none⟩ (.int .i64 1)) q true 1 0 0 (.slice none 0 0) := by show _ = _; rw [set_other _ (Ne.symm hcq)]; exact hd1
  have HANS : Hid (∀ nd, LFeedAns w ((w1.setCell ⟨cb, 3, none⟩ (.int .i64 1)).drewN nd) cb F (.returned (.tuple #[.slice none 0 0, .bool true]))) := fun nd =>
    ⟨.slice none 0 0, [], [cb, q], rfl, World.ownsRow_nil _ _ _ _, ⟨q, _, _, 1, .inr (.inl ⟨hb2, hd2, by decide, rfl⟩)⟩, fun k hk => .inl (by simp at hk; rcases hk with rfl | rfl; exact HFF.out.1; exact HFF.out.2), fun k hk => by simp [Value.ownBlock] at hk, ((KeptBut.one hk1 HFF.out.2).set HFF.out.1 _).trans (KeptBut.below (below_drewN (Below.refl _ _) _))⟩
  clear hbx1 hk1 hd1 hb2 hd2 HF
  generalize (dataOf fs).length = dO at *
  go_wp2_with (first | (go_at_call 36; go_in) | fail)
  go_wp2
  go_ret2
  exact HANS.out 0
set_option maxHeartbeats 1000000 in
theorem lfeed_bad (cb q : Nat) (va : Value) (out c : Int) (pa : Option Addr) (pn pc : Nat) (w : World) (hbox : LBox w cb q va out c false) (hdec : DecBox w q true c 0 0 (.slice none 0 0)) (hc : c ≠ 0) :
    Calls Tryz.prog 20 #[.pointer (some ⟨cb, 0, none⟩), .slice pa pn pc] w fun r w' => LFeedAns w w' cb [cb, q] r := by
  have HANS : Hid (∀ n m, LFeedAns w ((w.drewN n).drewN m) cb [cb, q] (.returned (.tuple #[.slice none 0 0, .bool true]))) := fun n m =>
    ⟨.slice none 0 0, [], [cb, q], rfl, World.ownsRow_nil _ _ _ _, ⟨q, va, out, c, .inr (.inl ⟨hbox, hdec, hc, rfl⟩)⟩, fun k hk => .inl hk, fun k hk => by simp [Value.ownBlock] at hk, KeptBut.below (below_drewN (below_drewN (Below.refl _ _) _) _)⟩
  have HF : Hid _ := feed_bad_calls q c 0 0 (.slice none 0 0) pa pn pc w hdec hc
  obtain ⟨⟨c0, c1, c2, c3, c4⟩, _⟩ := penta_cell hbox
  have hcx : ∀ n, LBox (w.drewN n) cb q va out c false := fun n => hbox
  have hcb : (c != 0) = true := by simpa using hc
  clear hbox hdec hc
  go_enter Tryz.func20, Tryz.ntmps20
  go_wp2_with fail
  refine Calls.mono HF.out ?_
  rintro r w1 ⟨rfl, n, rfl⟩
  obtain ⟨⟨c0, c1, c2, c3, c4⟩, _⟩ := penta_cell (hcx n)
  have HAN2 : Hid _ := HANS.out n
  clear hcx HF HANS
  generalize w.drewN n = w1 at *
  go_wp2_with fail
  go_quiet ((go_at_call 36; exact Calls.quiet_of_same (num_calls _ _)))
  go_wp2
  go_ret2
  exact HAN2.out _
set_option maxHeartbeats 1000000 in
theorem lfeed_shut (cb q : Nat) (va : Value) (out c : Int) (pa : Option Addr) (pn pc : Nat) (w : World) (hbox : LBox w cb q va out c true) (hdec : DecBox w q false 0 0 0 (.slice none 0 0)) :
    Calls Tryz.prog 20 #[.pointer (some ⟨cb, 0, none⟩), .slice pa pn pc] w fun r w' => LFeedAns w w' cb [cb, q] r := by
  have HANS : Hid (∀ n, LFeedAns w (w.drewN n) cb [cb, q] (.returned (.tuple #[.slice none 0 0, .bool true]))) := fun n =>
    ⟨.slice none 0 0, [], [cb, q], rfl, World.ownsRow_nil _ _ _ _, ⟨q, va, out, c, .inr (.inr ⟨hbox, hdec, rfl⟩)⟩, fun k hk => .inl hk, fun k hk => by simp [Value.ownBlock] at hk, KeptBut.below (below_drewN (Below.refl _ _) _)⟩
  have HF : Hid _ := feed_shut_calls q 0 0 0 (.slice none 0 0) pa pn pc w hdec
  obtain ⟨⟨c0, c1, c2, c3, c4⟩, _⟩ := penta_cell hbox
  clear hbox hdec
  go_enter Tryz.func20, Tryz.ntmps20
  go_wp2_with fail
  refine Calls.mono HF.out ?_
  rintro r w1 ⟨rfl, rfl⟩
  clear HF
  go_wp2_with (first | (go_at_call 36; go_in) | fail)
  go_wp2
  go_ret2
  exact HANS.out 0
/-- Every Feed of the law's Decoder. -/
theorem lfeed_calls (cb : Nat) (F : List Nat) (p : List UInt8) (pa : Option Addr) (pc : Nat) (w : World) (h : LDec w cb F) (hp : BytesAt w pa p) (hpc : pa = none → p.length = 0 ∧ pc = 0) (hpl : p.length ≤ 140737488355328) (hpF : 0 < p.length → ∀ b off, pa = some ⟨b, off, none⟩ → b ∉ F) :
    Calls Tryz.prog 20 #[.pointer (some ⟨cb, 0, none⟩), .slice pa p.length pc] w fun r w' => LFeedAns w w' cb F r := by
  obtain ⟨q, va, out, c, ⟨all, fs, e, v, h1, h2, h3, h4, rfl⟩ | ⟨h1, h2, h3, rfl⟩ | ⟨h1, h2, rfl⟩⟩ := h
  · by_cases hl : all.length + p.length ≤ 4096
    · exact lfeed_live cb q va v all p fs e pa pc w h1 h2 h3 h4 hp hpc hpF hl
    · exact lfeed_long cb q va v all fs e pa p.length pc w _ (by simp) h1 h2 h3 (by omega) hpl
  · exact lfeed_bad cb q va out c pa p.length pc w h1 h2 h3
  · exact lfeed_shut cb q va out c pa p.length pc w h1 h2

/-- How the law's end ends. -/
def LEndAns (w w' : World) (cb : Nat) (F : List Nat) (r : Ending) : Prop :=
  ∃ F', r = .returned (.bool true) ∧ LDec w' cb F' ∧ (∀ k ∈ F', k ∈ F ∨ w.heap.size ≤ k) ∧ KeptBut w w' F
set_option maxHeartbeats 2000000 in
theorem lend_live (cb q : Nat) (va v : Value) (all : List UInt8) (fs : List (List Tok × List UInt8)) (e : Int) (w : World) (F : List Nat) (hF : cb ∈ F ∧ q ∈ F) (hbox : LBox w cb q va (dataOf fs).length 0 false) (hdec : DecAt w q v all fs e) (hva : OwnB w 0 va all) :
    Calls Tryz.prog 19 #[.pointer (some ⟨cb, 0, none⟩)] w fun r w' => LEndAns w w' cb F r := by
  obtain ⟨⟨c0, c1, c2, c3, c4⟩, _⟩ := penta_cell hbox
  obtain ⟨ao, ac, rfl⟩ := hva.form
  have HF : Hid _ := end_calls q v all fs e w hdec
  have hcb := block_lt hbox
  have hq := hdec.lt
  have hcq : cb ≠ q := by obtain ⟨st, rest, h1, _⟩ := hdec; exact lbox_ne hbox h1
  have hal : all.length ≤ 4096 := by obtain ⟨st, rest, _, _, _, _, _, _, h, _⟩ := hdec; exact h
  have HAQ : Hid ((Value.slice ao all.length ac).ownBlock ≠ some q) := by obtain ⟨st, rest, h1, _⟩ := hdec; exact cellOf_ne hva h1 (by decide)
  have HAC : Hid ((Value.slice ao all.length ac).ownBlock ≠ some cb) := cellOf_ne hva hbox (by decide)
  obtain ⟨ends, hread⟩ := hdec.told.read hal
  have HRD : Hid (rRead all = (e, psOf fs, dataOf fs, ends)) := hread
  have HBOX : Hid _ := hbox
  have HFF : Hid _ := hF
  have HVA : Hid (OwnB w 0 (.slice ao all.length ac) all) := hva
  clear hbox hdec hva hF hread
  go_enter Tryz.func19, Tryz.ntmps19
  go_wp2_with fail
  refine Calls.mono HF.out ?_
  rintro r w1 ⟨rfl, hd1, hk1⟩
  have hbx1 : LBox w1 cb q (.slice ao all.length ac) (dataOf fs).length 0 false := (hk1.heap cb hcb hcq).trans HBOX.out
  obtain ⟨⟨c0, c1, c2, c3, c4⟩, f0, f1, f2, f3, f4⟩ := penta_cell hbx1
  have hs1 := hk1.size
  have hb2 : LBox (w1.setCell ⟨cb, 4, none⟩ (.bool true)) cb q (.slice ao all.length ac) (dataOf fs).length 0 true := set_block (i := 4) hbx1 (.bool true)
  have hd2 : DecBox (w1.setCell ⟨cb, 4, none⟩ (.bool true)) q false 0 0 0 (.slice none 0 0) := by show _ = _; rw [set_other _ (Ne.symm hcq)]; exact hd1
  have hva2 : OwnB (w1.setCell ⟨cb, 4, none⟩ (.bool true)) 0 (.slice ao all.length ac) all := OwnB.set (World.ownsRow.kept HVA.out hk1.grown (by cases h : (Value.slice ao all.length ac).ownBlock with | none => exact .inl rfl | some k => exact .inr (fun e => HAQ.out (h.trans e)))) _ HAC.out
  have hk2 : KeptBut w (w1.setCell ⟨cb, 4, none⟩ (.bool true)) F := (KeptBut.one hk1 HFF.out.2).set HFF.out.1 _
  have HRC : Hid _ := read_calls ao all ac (w1.setCell ⟨cb, 4, none⟩ (.bool true)) (by omega) (OwnB.bytes hva2)
  have HB2 : Hid _ := hb2
  have HD2 : Hid _ := hd2
  have HK2 : Hid _ := hk2
  clear hbx1 hk1 hd1 HF hb2 hd2 hva2 hk2
  generalize (dataOf fs).length = dO at *
  go_wp2_with fail
  refine Calls.mono HRC.out ?_
  generalize hw2 : w1.setCell ⟨cb, 4, none⟩ (.bool true) = w2 at *
  have hs2 : w2.heap.size = w1.heap.size := by rw [← hw2]; exact set_size _ _ _
  rintro r w3 ⟨hb3, rfl, L, n, vP, vD, vE, ht3, hl3⟩
  rw [HRD.out] at ht3
  obtain ⟨⟨_, _, t2⟩, _⟩ := ht3.cell
  have hs3 := hb3.size
  have HANS : Hid (∀ nd, LEndAns w (w3.drewN nd) cb F (.returned (.bool true))) := fun nd =>
    ⟨[cb, q], rfl, ⟨q, _, _, 0, .inr (.inr ⟨(hb3.block cb (by omega)).trans HB2.out, (hb3.block q (by omega)).trans HD2.out, rfl⟩)⟩, fun k hk => .inl (by simp at hk; rcases hk with rfl | rfl; exact HFF.out.1; exact HFF.out.2), (HK2.out.trans (KeptBut.below hb3)).trans (KeptBut.below (below_drewN (Below.refl _ _) _))⟩
  have hqt : w2.heap.size < w3.heap.size := ht3.lt
  clear hs2 hw2 hb3 ht3 hl3 HRC
  go_wp2_with fail
  go_quiet ((go_at_call 36; exact Calls.quiet_of_same (num_calls _ _)))
  go_wp2
  go_ret
  exact HANS.out _
set_option maxHeartbeats 1000000 in
theorem lend_bad (cb q : Nat) (va : Value) (out c : Int) (w : World) (hbox : LBox w cb q va out c false) (hdec : DecBox w q true c 0 0 (.slice none 0 0)) (hc : c ≠ 0) :
    Calls Tryz.prog 19 #[.pointer (some ⟨cb, 0, none⟩)] w fun r w' => LEndAns w w' cb [cb, q] r := by
  have HF : Hid _ := end_bad_calls q c 0 0 none 0 0 w hdec hc
  have hcb := block_lt hbox
  have hcq : cb ≠ q := lbox_ne hbox hdec
  obtain ⟨⟨c0, c1, c2, c3, c4⟩, _⟩ := penta_cell hbox
  have hcc : (c != 0) = true := by simpa using hc
  have HBOX : Hid _ := hbox
  clear hbox hdec hc
  go_enter Tryz.func19, Tryz.ntmps19
  go_wp2_with fail
  refine Calls.mono HF.out ?_
  rintro r w1 ⟨rfl, hd1, hk1⟩
  have hbx1 : LBox w1 cb q va out c false := (hk1.heap cb hcb hcq).trans HBOX.out
  obtain ⟨⟨c0, c1, c2, c3, c4⟩, f0, f1, f2, f3, f4⟩ := penta_cell hbx1
  have hs1 := hk1.size
  have HANS : Hid (∀ nd, LEndAns w ((w1.setCell ⟨cb, 4, none⟩ (.bool true)).drewN nd) cb [cb, q] (.returned (.bool true))) := fun nd =>
    ⟨[cb, q], rfl, ⟨q, va, out, c, .inr (.inr ⟨set_block (i := 4) hbx1 (.bool true), by show _ = _; rw [show ((w1.setCell ⟨cb, 4, none⟩ (.bool true)).drewN nd).heap = (w1.setCell ⟨cb, 4, none⟩ (.bool true)).heap from rfl, set_other _ (Ne.symm hcq)]; exact hd1, rfl⟩)⟩, fun k hk => .inl hk, ((KeptBut.one hk1 (by simp)).set (by simp) _).trans (KeptBut.below (below_drewN (Below.refl _ _) _))⟩
  clear hbx1 hk1 hd1 HF
  go_wp2_with fail
  go_quiet ((go_at_call 36; exact Calls.quiet_of_same (num_calls _ _)))
  go_wp2
  go_ret
  exact HANS.out _
set_option maxHeartbeats 1000000 in
theorem lend_shut (cb q : Nat) (va : Value) (out c : Int) (w : World) (hbox : LBox w cb q va out c true) (hdec : DecBox w q false 0 0 0 (.slice none 0 0)) :
    Calls Tryz.prog 19 #[.pointer (some ⟨cb, 0, none⟩)] w fun r w' => LEndAns w w' cb [cb, q] r := by
  have HANS : Hid (∀ n, LEndAns w (w.drewN n) cb [cb, q] (.returned (.bool true))) := fun n =>
    ⟨[cb, q], rfl, ⟨q, va, out, c, .inr (.inr ⟨hbox, hdec, rfl⟩)⟩, fun k hk => .inl hk, KeptBut.below (below_drewN (Below.refl _ _) _)⟩
  have HF : Hid _ := end_shut_calls q 0 0 0 (.slice none 0 0) w hdec
  obtain ⟨⟨c0, c1, c2, c3, c4⟩, _⟩ := penta_cell hbox
  clear hbox hdec
  go_enter Tryz.func19, Tryz.ntmps19
  go_wp2_with fail
  refine Calls.mono HF.out ?_
  rintro r w1 ⟨rfl, rfl⟩
  clear HF
  go_wp2_with (first | (go_at_call 36; go_in) | fail)
  go_wp2
  go_ret
  exact HANS.out 0
/-- Every End of the law's Decoder. -/
theorem lend_calls (cb : Nat) (F : List Nat) (w : World) (h : LDec w cb F) :
    Calls Tryz.prog 19 #[.pointer (some ⟨cb, 0, none⟩)] w fun r w' => LEndAns w w' cb F r := by
  obtain ⟨q, va, out, c, ⟨all, fs, e, v, h1, h2, h3, h4, rfl⟩ | ⟨h1, h2, h3, rfl⟩ | ⟨h1, h2, rfl⟩⟩ := h
  · exact lend_live cb q va v all fs e w _ (by simp) h1 h2 h3
  · exact lend_bad cb q va out c w h1 h2 h3
  · exact lend_shut cb q va out c w h1 h2
end Go.Proofs.YtnpnaglgllcpfaaGreat
