/-
  What the program's Decoder does: Feed and End, of what it holds in memory.
-/
import Derived.Test.YtnpnaglgllcpfabDec
import Derived.Test.YtnpnaglgllcpfabApp
import Derived.Test.YtnpnaglgllcpfabRound2
namespace Go.Proofs.Ytnpnaglgllcpfab
set_option maxRecDepth 100000
open Go.RowKit

theorem cellsB_one (l : List UInt8) : ∀ u ∈ cellsB l, u.oneCell' = true := by
  intro u hu; simp [cellsB] at hu; obtain ⟨_, _, rfl⟩ := hu; rfl
/-- Bytes in memory, appended to a row of bytes that the call owns. -/
theorem wpList_append_bytes {w : World} {ops : Array Oper} {rest : List Oper} {o : Oper} {a : Act} {Q : Exit → Act → World → Prop} (hgd : o.guard = none) (s x : Operand)
    (ho : o.op = .call { callee := .builtin .append, args := #[s, x], argTypes := #[22, 22] })
    (base : Nat) (v : Value) (out : List UInt8) (hs : a.eval s = v) (hown : OwnB w base v out)
    (sa : Option Addr) (l : List UInt8) (cap : Nat) (hx : a.eval x = .slice sa l.length cap) (hb : BytesAt w sa l) (hc : sa = none → l.length = 0 ∧ cap = 0)
    (h63 : out.length + l.length ≤ 140737488355328) (hbase : base ≤ w.heap.size)
    (h : ∀ v' w', OwnB w' base v' (out ++ l) → w.grownBy w' v.ownBlock → wpList Try.prog ops Q rest (a.put o.dst v') w') : wpList Try.prog ops Q (o :: rest) a w := by
  obtain ⟨i0, hi, hz0, hz1, hz2⟩ := info_parts info8
  rcases sa with _ | ad
  · obtain ⟨h0, rfl⟩ := hc rfl
    obtain rfl : l = [] := List.eq_nil_of_length_eq_zero h0
    refine wpList_append_own_none hgd s x 22 ho base 5 i0 1 Try.underlying22 hi v out.length (cellsB out) hs hown hx (h v w ?_ (grown_refl _ _))
    rw [List.append_nil]; exact hown
  · refine wpList_append_own w hgd s x 22 ho base 5 i0 (.int .u8 0) 1 1 Try.underlying22 hi hz0 hz1 hz2 rfl (by decide) v out.length (cellsB out) hs hown ad l.length cap (cellsB l) hx (by simp [cellsB]) ?_ (cellsB_one l) (by unfold maxLen; omega) (by omega) hbase (fun v' w' k1 k2 _ => h v' w' ?_ k2)
    · intro j u hj
      rcases hb with rfl | ⟨b, off, h1, h2⟩
      · simp [cellsB] at hj
      · have hjl : j < l.length := by
          have := (List.getElem?_eq_some_iff.1 hj).1
          simpa [cellsB] using this
        simp at h1
        subst h1
        have hadd : (⟨b, off, none⟩ : Addr).add j = ⟨b, off + j, none⟩ := by unfold Addr.add; split <;> simp_all
        rw [hadd, h2 j hjl]
        simp [cellsB, hjl] at hj
        rw [← hj]
        simp [List.getD, hjl]
    · show w'.ownsRow _ _ _ _ _ _
      rw [List.length_append, show cellsB (out ++ l) = cellsB out ++ cellsB l by simp [cellsB]]
      exact k1

set_option maxHeartbeats 1000000 in
theorem joined_calls (aa ab : Option Addr) (la lb : List UInt8) (ca cb : Nat) (w : World) (ha : BytesAt w aa la) (hb : BytesAt w ab lb) (hca : aa = none → la.length = 0 ∧ ca = 0) (hcb : ab = none → lb.length = 0 ∧ cb = 0) (hla : la.length ≤ 5000) (hlb : lb.length ≤ 5000) :
    Calls Try.prog 64 #[.slice aa la.length ca, .slice ab lb.length cb] w fun e w' => ∃ v, e = .returned v ∧ OwnB w' w.heap.size v (la ++ lb) ∧ Below w.heap.size w w' := by
  have HA : Hid (BytesAt w aa la) := ha
  have HB : Hid (BytesAt w ab lb) := hb
  have HCA : Hid (aa = none → la.length = 0 ∧ ca = 0) := hca
  have HCB : Hid (ab = none → lb.length = 0 ∧ cb = 0) := hcb
  clear ha hb hca hcb
  go_enter Try.func64, Try.ntmps64
  go_wp2_with (at_builtin; refine wpList_append_bytes rfl _ _ rfl w.heap.size _ [] rfl (World.ownsRow_nil _ _ _ _) aa la ca rfl HA.out HCA.out ?b1 ?b2 ?_)
  case b1 => simp; omega
  case b2 => simp
  intro v1 w1 hv1 hg1
  have HB1 : Hid (Below w.heap.size w w1) := (Below.refl _ _).grown hg1 (Nat.le_refl _) (fun k hk => by simp [Value.ownBlock] at hk)
  have HV1 : Hid (OwnB w1 w.heap.size v1 la) := hv1
  obtain ⟨o1, c1, rfl⟩ := hv1.form
  have hs1 := HB1.out.size
  clear hv1 hg1
  go_wp2_with (at_builtin; refine wpList_append_bytes rfl _ _ rfl w.heap.size _ la rfl HV1.out ab lb cb rfl (bytesAt_below HB.out HB1.out) HCB.out ?d1 ?d2 ?_)
  case d1 => omega
  case d2 => exact hs1
  intro v2 w2 hv2 hg2
  have HB2 : Hid (Below w.heap.size w w2) := HB1.out.grown hg2 hs1 (fun k hk => (World.ownsRow.lt HV1.out k hk).1)
  have HV2 : Hid (OwnB w2 w.heap.size v2 (la ++ lb)) := hv2
  clear hv2 hg2
  obtain ⟨o2, c2, rfl⟩ := HV2.out.form
  generalize hab : la ++ lb = lab at *
  have HAB : Hid (la ++ lb = lab) := hab
  clear hab
  go_wp2
  go_ret
  exact ⟨_, rfl, by rw [HAB.out]; exact HV2.out, HB2.out⟩

theorem penta_cell {w : World} {q : Nat} {a b c d e : Value} {t : TypeId} (h : w.heap[q]? = some (.cells #[a, b, c, d, e] t (0, 0))) :
    (w.cell? ⟨q, 0, none⟩ = some a ∧ w.cell? ⟨q, 1, none⟩ = some b ∧ w.cell? ⟨q, 2, none⟩ = some c ∧ w.cell? ⟨q, 3, none⟩ = some d ∧ w.cell? ⟨q, 4, none⟩ = some e) ∧ (w.frozen? ⟨q, 0, none⟩ = false ∧ w.frozen? ⟨q, 1, none⟩ = false ∧ w.frozen? ⟨q, 2, none⟩ = false ∧ w.frozen? ⟨q, 3, none⟩ = false ∧ w.frozen? ⟨q, 4, none⟩ = false) := by
  simp [World.cell?, World.frozen?, h]
/-- The Decoder in block q: is it open, the error that it keeps, how much was taken, the stage, the rest. -/
abbrev DecBox (w : World) (q : Nat) (o : Bool) (e n s : Int) (v : Value) : Prop := w.heap[q]? = some (.cells #[.bool o, .int .i64 e, .int .i64 n, .int .i64 s, v] 108 (0, 0))
theorem set5 {w : World} {q : Nat} {a b c d e : Value} {t : TypeId} (h : w.heap[q]? = some (.cells #[a, b, c, d, e] t (0, 0))) (a' b' c' d' e' : Value) :
    (((((w.setCell ⟨q, 0, none⟩ a').setCell ⟨q, 1, none⟩ b').setCell ⟨q, 2, none⟩ c').setCell ⟨q, 3, none⟩ d').setCell ⟨q, 4, none⟩ e').heap[q]? = some (.cells #[a', b', c', d', e'] t (0, 0)) :=
  set_block (i := 4) (set_block (i := 3) (set_block (i := 2) (set_block (i := 1) (set_block (i := 0) h a') b') c') d') e'
theorem fail_calls (q : Nat) (c n s x : Int) (o : Bool) (so : Option Addr) (sl sc : Nat) (w : World) (h : DecBox w q o c n s (.slice so sl sc)) :
    Calls Try.prog 63 #[.pointer (some ⟨q, 0, none⟩), .int .i64 x] w fun e w' => e = .returned (.tuple #[]) ∧ DecBox w' q true x 0 0 (.slice none 0 0) ∧ OneKept w w' q := by
  obtain ⟨⟨c0, c1, c2, c3, c4⟩, f0, f1, f2, f3, f4⟩ := penta_cell h
  have HF : Hid _ := set5 h (.bool true) (.int .i64 x) (.int .i64 0) (.int .i64 0) (.slice none 0 0)
  clear h
  go_enter Try.func63, Try.ntmps63
  go_wp2
  go_end0
  exact ⟨rfl, HF.out, ((((OneKept.refl _ _).set _).set _).set _).set _ |>.set _⟩

theorem newDecoder_calls (w : World) : Calls Try.prog 47 #[] w fun e w' => e = .returned (.pointer (some ⟨w.heap.size, 0, none⟩)) ∧ Below w.heap.size w w' ∧ w'.heap.size = w.heap.size + 1 ∧ DecBox w' w.heap.size true 0 0 0 (.slice none 0 0) := by
  go_enter Try.func47, Try.ntmps47
  go_wp2
  go_ret
  exact ⟨rfl, (Below.refl _ _).alloc (Nat.le_refl _) _, by simp, heap_alloc_new w _⟩
end Go.Proofs.Ytnpnaglgllcpfab
