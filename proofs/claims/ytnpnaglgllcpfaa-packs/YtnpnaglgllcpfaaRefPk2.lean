/-
  What the document's Pack answers of pieces in memory.
-/
import Derived.Test.YtnpnaglgllcpfaaRdA
import Derived.Test.YtnpnaglgllcpfaaRefPk
import Derived.Lib.SlBytesConst
import Derived.ArgAppend
namespace Go.Proofs.Ytnpnaglgllcpfaa
set_option maxRecDepth 100000
open Go.RowKit

set_option maxHeartbeats 1000000 in
theorem refBytes_calls (L : List Bool) (w : World) (hl : L.length ≤ 100000) :
    Calls Try.prog 76 #[.string (text L)] w fun e w' => ∃ v, e = .returned v ∧ OwnB w' w.heap.size v (toBytes L) ∧ Below w.heap.size w w' := by
  obtain ⟨i0, hi, hz0, hz1, hz2⟩ := info_parts info8
  have hsz : (text L).size = L.length := text_len L
  have HG : Hid (∀ i (h : i < (text L).size) (h' : i < L.length), (((text L)[i]'h).toNat : Int) = 48 + (L[i].toNat : Int)) := text_get L
  generalize text L = s at *
  have hs1 : s.size ≤ 100000 := by omega
  have HSZ : Hid _ := hsz
  clear hsz
  go_enter Try.func76, Try.ntmps76
  go_wp2
  go_loopw [3, 4] (fun v i wr => ∃ (j : Nat), 8 * j ≤ s.size ∧ i = .int .i64 ((8 * j : Nat) : Int) ∧ OwnB wr w.heap.size v (toBytes (L.take (8 * j))) ∧ Below w.heap.size w wr) (fun _ i _ => s.size - (intOf i).toNat)
  case atStart => exact ⟨0, by omega, rfl, World.ownsRow_nil _ _ _ _, Below.refl _ _⟩
  case round =>
    obtain ⟨j, hj, rfl, hown, hb⟩ := hrel
    have HO : Hid _ := hown
    clear hown
    have hss := hb.size
    generalize hI : 8 * j = I at *
    have HI : Hid _ := hI
    clear hI
    by_cases hlt : I + 8 ≤ s.size
    · obtain ⟨w1, hw1⟩ : ∃ w1, w1 = wr := ⟨_, rfl⟩
      rw [← hw1]
      rw [← hw1] at HO hb hss
      clear hw1
      go_wp2_with fail
      go_loopw [5, 6] (fun x k wq => ∃ (K : Nat), K ≤ 8 ∧ k = .int .i64 K ∧ x = .int .i64 (valB ((L.drop I).take K)) ∧ wq = w1) (fun _ k _ => 8 - (intOf k).toNat)
      case atStart => exact ⟨0, by omega, rfl, rfl, rfl⟩
      case round =>
        obtain ⟨K, hK, rfl, rfl, rfl⟩ := hrel
        have hvl : valB ((L.drop I).take K) < 256 := valB_256 _ (by rw [List.length_take]; omega)
        by_cases hKl : K < 8
        · have hIK : I + K < s.size := by omega
          have hLIK : I + K < L.length := by have := HSZ.out; omega
          have HV : Hid ((valB ((L.drop I).take (K + 1)) : Int) = 2 * (valB ((L.drop I).take K) : Int) + (L[I + K].toNat : Int)) := by
            show _ = _
            have hd : K < (L.drop I).length := by rw [List.length_drop]; omega
            rw [List.take_succ_eq_append_getElem hd, valB_snoc, List.getElem_drop]
            simp
          have hix : 0 ≤ (I : Int) + (K : Int) ∧ (I : Int) + (K : Int) < (s.size : Int) := by omega
          generalize valB ((L.drop I).take K) = y at *
          go_wp2
          go_roundw
          case rel =>
            refine ⟨K + 1, by omega, by go_num, ?_, by first | trivial | rfl⟩
            have hg := HG.out (I + K) hIK hLIK
            have hbt : L[I + K].toNat ≤ 1 := Bool.toNat_le _
            rw [HV.out, hg]
            have : (48 + (L[I + K].toNat : Int) - 48) % 256 = (L[I + K].toNat : Int) := by omega
            rw [this]
          case measure => simp [intOf]; omega
        · have hKe : K = 8 := by omega
          subst hKe
          have HE : Hid (toBytes (L.take (8 * (j + 1))) = toBytes (L.take I) ++ [UInt8.ofNat (valB ((L.drop I).take 8))]) := by
            rw [← HI.out]
            exact toBytes_take L j (by have := HSZ.out; have := HI.out; omega)
          generalize valB ((L.drop I).take 8) = y at *
          have hlen : (toBytes (L.take I)).length ≤ 100000 := by rw [toBytes_length, List.length_take]; omega
          generalize toBytes (L.take I) = o at *
          obtain ⟨ao, cp, rfl⟩ := OwnB.form HO.out
          go_wp2_with (at_builtin; refine wpList_append_own _ rfl _ _ 22 rfl w.heap.size 5 i0 (.int .u8 0) 1 1 Try.underlying22 hi hz0 hz1 hz2 rfl (by decide) _ _ _ rfl (HO.out.alloc _) ⟨wr.heap.size, 0, none⟩ 1 1 [.int .u8 y] rfl rfl ?d1 ?d2 ?d3 ?d4 ?d5 ?_)
          case d1 => intro j u hj; exact cell_new1 _ _ _ j u hj
          case d2 => first | rfl | (intro u hu; simp at hu; subst hu; rfl)
          case d3 => unfold maxLen; omega
          case d4 => omega
          case d5 => first | omega | (simp; omega)
          intro v' w2 hown' hgrow _
          have hbw2 : Below w.heap.size w w2 := below_own (hb.alloc (by omega) _) (HO.out.alloc _) hgrow (Nat.le_refl _) (by simp; omega)
          have hown2 : OwnB w2 w.heap.size v' (toBytes (L.take (8 * (j + 1)))) := by
            rw [HE.out]
            have e5 : ((UInt8.ofNat y).toNat : Int) = y := by simp; omega
            unfold OwnB
            rw [cellsB_snoc, e5, List.length_append]
            exact hown'
          clear hown' hgrow
          go_wp2
          go_roundw
          case rel => exact ⟨j + 1, by have := HI.out; omega, by have := HI.out; go_num, hown2, hbw2⟩
          case measure => simp [intOf]; omega
    · have HE : Hid (toBytes (L.take I) = toBytes L) := by
        show _ = _
        have e1 := HSZ.out
        have e2 := HI.out
        have : L = L.take I ++ L.drop I := (List.take_append_drop _ _).symm
        conv => rhs; rw [this]
        rw [toBytes_append _ _ (by rw [List.length_take]; omega)]
        have : toBytes (L.drop I) = [] := List.eq_nil_of_length_eq_zero (by rw [toBytes_length, List.length_drop]; omega)
        rw [this, List.append_nil]
      go_wp2
      go_ret
      exact ⟨_, rfl, by rw [← HE.out]; exact HO.out, hb⟩
/-- The bytes so far: the three of the constant, or what the call has made of them. -/
def OutB (w : World) (B : Nat) (v : Value) (out : List UInt8) : Prop :=
  OwnB w B v out ∨ ∃ g, v = .slice (some ⟨g, 0, none⟩) 3 3 ∧ out = [80, 90, 49] ∧ w.heap[g]? = some (.cells #[.int .u8 80, .int .u8 90, .int .u8 49] 5 (3, 4))
theorem OutB.below {w w' : World} {B : Nat} {v : Value} {out : List UInt8} (h : OutB w B v out) (hb : Below w.heap.size w w') : OutB w' B v out := by
  rcases h with h | ⟨g, h1, h2, h3⟩
  · exact .inl (h.below hb)
  · exact .inr ⟨g, h1, h2, by rw [hb.block g (Array.getElem?_eq_some_iff.1 h3).1]; exact h3⟩
theorem OutB.alloc {w : World} {B : Nat} {v : Value} {out : List UInt8} (h : OutB w B v out) (o : Obj) : OutB (w.alloc o) B v out :=
  h.below ((Below.refl _ _).alloc (Nat.le_refl _) o)
theorem OutB.form {w : World} {B : Nat} {v : Value} {out : List UInt8} (h : OutB w B v out) : ∃ ao cp, v = .slice ao out.length cp := by
  rcases h with h | ⟨g, rfl, rfl, _⟩
  · exact h.form
  · exact ⟨_, _, rfl⟩
theorem wpList_append_out {w : World} {ops : Array Oper} {rest : List Oper} {o : Oper} {a : Act} {Q : Exit → Act → World → Prop} (hgd : o.guard = none) (s x : Operand)
    (ho : o.op = .call { callee := .builtin .append, args := #[s, x], argTypes := #[22, 22] }) (B : Nat) (v : Value) (out nb : List UInt8) (hs : a.eval s = v) (hout : OutB w B v out)
    (ad : Addr) (c : Nat) (hx : a.eval x = .slice (some ad) nb.length c) (hnb : 0 < nb.length) (hnews : ∀ j, j < nb.length → w.cell? (ad.add j) = some (.int .u8 (nb.getD j 0).toNat)) (hlen : out.length + nb.length ≤ 1000000) (hB : B ≤ w.heap.size)
    (h : ∀ v' w', OwnB w' B v' (out ++ nb) → Below B w w' → wpList Try.prog ops Q rest (a.put o.dst v') w') : wpList Try.prog ops Q (o :: rest) a w := by
  obtain ⟨i0, hi, hz0, hz1, hz2⟩ := info_parts info8
  have hn : ∀ j u, (cellsB nb)[j]? = some u → w.cell? (ad.add j) = some u := fun j u hu => by
    have hj : j < nb.length := by
      have := (List.getElem?_eq_some_iff.1 hu).1
      rwa [cellsB_length] at this
    rw [hnews j hj]
    simp [cellsB, hj] at hu
    simp [hj, hu]
  have h1c : ∀ u ∈ cellsB nb, u.oneCell' = true := fun u hu => by
    simp only [cellsB, List.mem_map] at hu
    obtain ⟨b, _, rfl⟩ := hu
    rfl
  refine wpList_plain hgd fun K hK => ?_
  rcases hout with h1 | ⟨g, rfl, rfl, hg⟩
  · obtain ⟨v', w', hr, r1, r2, _⟩ := run_append_own (P := Try.prog) w B 22 o.type 5 i0 (.int .u8 0) 1 1 Try.underlying22 hi hz0 hz1 hz2 rfl (by decide) v out.length (cellsB out) h1 ad nb.length c (cellsB nb) (by rw [cellsB_length]; omega) hn h1c (by unfold maxLen; omega) (by omega) hB
    have hb : Below B w w' := below_own (Below.refl _ _) h1 r2 (Nat.le_refl _) hB
    unfold Oper.wp
    simp [execOp, ho, resolve, invoke, builtin, hs, hx, hr, Result.andThen]
    refine hK _ _ (h v' w' ?_ hb)
    unfold OwnB
    rw [show cellsB (out ++ nb) = cellsB out ++ cellsB nb by simp [cellsB], List.length_append]
    exact r1
  · have holds : ∀ j u, (cellsB [80, 90, 49])[j]? = some u → w.cell? ((⟨g, 0, none⟩ : Addr).add j) = some u := fun j u hu => by
      have hadd : (⟨g, 0, none⟩ : Addr).add j = ⟨g, j, none⟩ := by unfold Addr.add; split <;> simp_all
      have hcs : (#[.int .u8 80, .int .u8 90, .int .u8 49] : Array Value)[j]? = (cellsB [80, 90, 49])[j]? := by simp [cellsB]
      rw [hadd, ← hu, ← hcs]
      simp [World.cell?, hg]
    obtain ⟨v', w', hr, r1, r2⟩ := run_append_arg_grows (P := Try.prog) w 22 o.type 5 i0 (.int .u8 0) 1 1 Try.underlying22 hi hz0 hz1 hz2 rfl (by decide) ⟨g, 0, none⟩ 3 3 (cellsB [80, 90, 49]) rfl holds ad nb.length c (cellsB nb) (by rw [cellsB_length]; omega) hn (by omega) (by unfold maxLen; omega) (by omega)
    have hb : Below B w w' := (Below.refl _ _).grown r2 hB (fun k h => by cases h)
    unfold Oper.wp
    simp [execOp, ho, resolve, invoke, builtin, hs, hx, hr, Result.andThen]
    refine hK _ _ (h v' w' ?_ hb)
    refine OwnB.le (B := w.heap.size) ?_ hB
    unfold OwnB
    rw [show cellsB ([80, 90, 49] ++ nb) = cellsB [80, 90, 49] ++ cellsB nb by simp [cellsB], List.length_append]
    exact r1
end Go.Proofs.Ytnpnaglgllcpfaa
