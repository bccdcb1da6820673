/-
  Bytes in memory appended to a row of bytes, and where the new row lies; memory but for some blocks.
-/
import Derived.Test.YtnpnaglgllcpfabApp
namespace Go.Proofs.Ytnpnaglgllcpfab
set_option maxRecDepth 100000
open Go.RowKit

theorem news_bytes {w : World} {ad : Addr} {l : List UInt8} (hb : BytesAt w (some ad) l) : ∀ j u, (cellsB l)[j]? = some u → w.cell? (ad.add j) = some u := by
  intro j u hj
  rcases hb with rfl | ⟨b, off, h1, h2⟩
  · simp [cellsB] at hj
  · have hjl : j < l.length := by
      have := (List.getElem?_eq_some_iff.1 hj).1
      simpa [cellsB] using this
    simp at h1
    subst h1
    have hadd : (⟨b, off, none⟩ : Addr).add j = ⟨b, off + j, none⟩ := by unfold Addr.add; split <;> simp_all
    rw [hadd, h2 j hjl]
    simp [cellsB, hjl] at hj
    rw [← hj]
    simp [List.getD, hjl]
theorem run_append_bytes {w : World} {ty : TypeId} (base : Nat) (v : Value) (out : List UInt8) (hown : OwnB w base v out) (sa : Option Addr) (l : List UInt8) (cap : Nat) (hb : BytesAt w sa l) (hc : sa = none → l.length = 0 ∧ cap = 0)
    (h63 : out.length + l.length ≤ 140737488355328) (hbase : base ≤ w.heap.size) :
    ∃ v' w', (Builtin.append_ #[22, 22] ty #[v, .slice sa l.length cap]).run Try.prog w = .ok v' w' ∧ OwnB w' base v' (out ++ l) ∧ w.grownBy w' v.ownBlock ∧ (v'.ownBlock = v.ownBlock ∨ v'.ownBlock = some w.heap.size) := by
  obtain ⟨i0, hi, hz0, hz1, hz2⟩ := info_parts info8
  rcases sa with _ | ad
  · obtain ⟨h0, rfl⟩ := hc rfl
    obtain rfl : l = [] := List.eq_nil_of_length_eq_zero h0
    exact ⟨v, w, run_append_owned_none w base 22 ty 5 i0 1 Try.underlying22 hi v out.length (cellsB out) hown, by rw [List.append_nil]; exact hown, grown_refl _ _, .inl rfl⟩
  · obtain ⟨v', w', hr, h2, h3, _, h5⟩ := run_append_own_at (P := Try.prog) w base 22 ty 5 i0 (.int .u8 0) 1 1 Try.underlying22 hi hz0 hz1 hz2 rfl (by decide) v out.length (cellsB out) hown ad l.length cap (cellsB l) (by simp [cellsB]) (news_bytes hb) (fun u hu => by simp [cellsB] at hu; obtain ⟨_, _, rfl⟩ := hu; rfl) (by unfold maxLen; omega) (by omega) hbase
    refine ⟨v', w', hr, ?_, h3, h5⟩
    show w'.ownsRow _ _ _ _ _ _
    rw [List.length_append, show cellsB (out ++ l) = cellsB out ++ cellsB l by simp [cellsB]]
    exact h2
theorem wp_append_at {w : World} {o : Oper} {a : Act} {K : Act → World → Prop} {Q : Exit → Act → World → Prop} (s x : Operand)
    (ho : o.op = .call { callee := .builtin .append, args := #[s, x], argTypes := #[22, 22] })
    (base : Nat) (v : Value) (out : List UInt8) (hs : a.eval s = v) (hown : OwnB w base v out) (sa : Option Addr) (l : List UInt8) (cap : Nat) (hx : a.eval x = .slice sa l.length cap) (hb : BytesAt w sa l) (hc : sa = none → l.length = 0 ∧ cap = 0)
    (h63 : out.length + l.length ≤ 140737488355328) (hbase : base ≤ w.heap.size)
    (h : ∀ v' w', OwnB w' base v' (out ++ l) → w.grownBy w' v.ownBlock → (v'.ownBlock = v.ownBlock ∨ v'.ownBlock = some w.heap.size) → K (a.put o.dst v') w') : o.wp Try.prog a w K Q := by
  obtain ⟨v', w', hr, h2, h3, h4⟩ := run_append_bytes (ty := o.type) base v out hown sa l cap hb hc h63 hbase
  unfold Oper.wp execOp
  simp only [ho, resolve, invoke, builtin, Sem.run_bind, Sem.run_pure, Result.andThen_ok, List.map_toArray, List.map_cons, List.map_nil, hs, hx, hr]
  exact h v' w' h2 h3 h4
theorem wpList_append_at {w : World} {ops : Array Oper} {rest : List Oper} {o : Oper} {a : Act} {Q : Exit → Act → World → Prop} (hgd : o.guard = none) (s x : Operand)
    (ho : o.op = .call { callee := .builtin .append, args := #[s, x], argTypes := #[22, 22] })
    (base : Nat) (v : Value) (out : List UInt8) (hs : a.eval s = v) (hown : OwnB w base v out) (sa : Option Addr) (l : List UInt8) (cap : Nat) (hx : a.eval x = .slice sa l.length cap) (hb : BytesAt w sa l) (hc : sa = none → l.length = 0 ∧ cap = 0)
    (h63 : out.length + l.length ≤ 140737488355328) (hbase : base ≤ w.heap.size)
    (h : ∀ v' w', OwnB w' base v' (out ++ l) → w.grownBy w' v.ownBlock → (v'.ownBlock = v.ownBlock ∨ v'.ownBlock = some w.heap.size) → wpList Try.prog ops Q rest (a.put o.dst v') w') : wpList Try.prog ops Q (o :: rest) a w :=
  wpList_plain hgd fun _ hK => wp_append_at s x ho base v out hs hown sa l cap hx hb hc h63 hbase fun v' w' h2 h3 h4 => hK _ _ (h v' w' h2 h3 h4)
theorem step_append_at {w : World} {ops : Array Oper} {o : Oper} {a : Act} {K : Act → World → Prop} {Q : Exit → Act → World → Prop} {E : Prop} (hgd : o.guard = none) (s x : Operand)
    (ho : o.op = .call { callee := .builtin .append, args := #[s, x], argTypes := #[22, 22] })
    (base : Nat) (v : Value) (out : List UInt8) (hs : a.eval s = v) (hown : OwnB w base v out) (sa : Option Addr) (l : List UInt8) (cap : Nat) (hx : a.eval x = .slice sa l.length cap) (hb : BytesAt w sa l) (hc : sa = none → l.length = 0 ∧ cap = 0)
    (h63 : out.length + l.length ≤ 140737488355328) (hbase : base ≤ w.heap.size)
    (h : ∀ v' w', OwnB w' base v' (out ++ l) → w.grownBy w' v.ownBlock → (v'.ownBlock = v.ownBlock ∨ v'.ownBlock = some w.heap.size) → K (a.put o.dst v') w') :
    if Region.wanted o (yielded ops a.tmps) = true then Oper.wp Try.prog o a w K Q else E := by
  have hw : Region.wanted o (yielded ops a.tmps) = true := by simp [Region.wanted, hgd]
  rw [if_pos hw]
  exact wp_append_at s x ho base v out hs hown sa l cap hx hb hc h63 hbase h

/-- What was there is there, but for these blocks. -/
structure KeptBut (w w' : World) (F : List Nat) : Prop where
  os : w'.os = w.os
  tape : w'.tape = w.tape
  output : w'.output = w.output
  size : w.heap.size ≤ w'.heap.size
  heap : ∀ k, k < w.heap.size → k ∉ F → w'.heap[k]? = w.heap[k]?
theorem KeptBut.refl (w : World) (F : List Nat) : KeptBut w w F := ⟨rfl, rfl, rfl, Nat.le_refl _, fun _ _ _ => rfl⟩
theorem KeptBut.trans {w w1 w2 : World} {F : List Nat} (h : KeptBut w w1 F) (k : KeptBut w1 w2 F) : KeptBut w w2 F :=
  ⟨k.os.trans h.os, k.tape.trans h.tape, k.output.trans h.output, Nat.le_trans h.size k.size, fun i hi hq => (k.heap i (Nat.lt_of_lt_of_le hi h.size) hq).trans (h.heap i hi hq)⟩
/-- A step that changed other blocks too, which are new. -/
theorem KeptBut.step {w w1 w2 : World} {F G : List Nat} (h : KeptBut w w1 F) (k : KeptBut w1 w2 G) (hG : ∀ i ∈ G, i ∈ F ∨ w.heap.size ≤ i) : KeptBut w w2 F :=
  ⟨k.os.trans h.os, k.tape.trans h.tape, k.output.trans h.output, Nat.le_trans h.size k.size, fun i hi hq => (k.heap i (Nat.lt_of_lt_of_le hi h.size) (fun hg => by rcases hG i hg with h1 | h1; exact hq h1; omega)).trans (h.heap i hi hq)⟩
theorem KeptBut.below {w w' : World} {F : List Nat} (h : Below w.heap.size w w') : KeptBut w w' F := ⟨h.os, h.tape, h.output, h.size, fun k hk _ => h.block k hk⟩
theorem KeptBut.one {w w' : World} {F : List Nat} {q : Nat} (h : OneKept w w' q) (hq : q ∈ F) : KeptBut w w' F := ⟨h.os, h.tape, h.output, h.size, fun k hk hF => h.heap k hk (fun e => hF (e ▸ hq))⟩
theorem KeptBut.grown {w w' : World} {F : List Nat} {r : Option Nat} (h : w.grownBy w' r) (hr : ∀ k, r = some k → k ∈ F) : KeptBut w w' F := ⟨h.os, h.tape, h.output, h.size, fun k hk hF => h.block k hk (fun e => hF (hr k e.symm))⟩
theorem KeptBut.none {w w' : World} (h : KeptBut w w' []) : Below w.heap.size w w' := ⟨h.os, h.tape, h.output, h.size, fun k hk => h.heap k hk (by simp)⟩
theorem KeptBut.set {w w' : World} {F : List Nat} {q i : Nat} (h : KeptBut w w' F) (hq : q ∈ F) (u : Value) : KeptBut w (w'.setCell ⟨q, i, Option.none⟩ u) F :=
  ⟨h.os, h.tape, h.output, by rw [set_size]; exact h.size, fun k hk hF => by rw [set_other u (by rintro rfl; exact hF hq)]; exact h.heap k hk hF⟩
theorem KeptBut.row {w w' : World} {F : List Nat} {B n z : Nat} {e : TypeId} {v : Value} {xs : List Value} (k : KeptBut w w' F) (h : w.ownsRow B e z v n xs) (hv : ∀ b, v.ownBlock = some b → b ∉ F) : w'.ownsRow B e z v n xs := by
  refine ⟨h.1, ?_⟩
  rcases h.2 with h' | ⟨g, cap, cur, h1, h2, hg, r⟩
  · exact .inl h'
  · refine .inr ⟨g, cap, cur, h1, h2, ?_, r⟩
    rw [k.heap g (Array.getElem?_eq_some_iff.1 hg).1 (hv g (by rw [h1]; rfl))]
    exact hg
end Go.Proofs.Ytnpnaglgllcpfab
