/-
  The document's table of widths.
-/
import Derived.Test.YtnpnaglgllcpfaaBst
import Derived.Test.YtnpnaglgllcpfaaRd5
namespace Go.Proofs.Ytnpnaglgllcpfaa
set_option maxRecDepth 100000
open Go.RowKit

/-- How wide each number is (0 has none). -/
def wid (j : Nat) : Int := if j = 0 then 0 else Tok.numLen j
def wids (n : Nat) : List Value := (List.range n).map fun j => Value.int .i64 (wid j)
theorem wids_succ (n : Nat) : wids (n + 1) = wids n ++ [.int .i64 (wid n)] := by simp [wids, List.range_succ]
theorem wids_length (n : Nat) : (wids n).length = n := by simp [wids]
/-- The table lies in memory. -/
def WidAt (w : World) (B : Nat) (v : Value) (n : Nat) : Prop := w.ownsRow B 3 1 v n (wids n)

set_option maxHeartbeats 1000000 in
theorem widths_calls (w : World) :
    Calls Try.prog 105 #[] w fun e w' => Below w.heap.size w w' ∧ ∃ v, e = .returned v ∧ WidAt w' w.heap.size v 65 := by
  obtain ⟨i0, hi, hz0, hz1, hz2⟩ := info_parts infoInt
  go_enter Try.func105, Try.ntmps105
  go_wp2_with fail
  go_loopw [1, 2] (fun v i wr => ∃ k : Nat, 1 ≤ k ∧ k ≤ 65 ∧ i = .int .i64 k ∧ WidAt wr w.heap.size v k ∧ Below w.heap.size w wr) (fun _ i _ => 65 - (intOf i).toNat)
  case atStart =>
    refine ⟨1, by omega, by omega, rfl, ⟨rfl, .inr ⟨w.heap.size, 1, #[.int .i64 0], rfl, Nat.le_refl _, heap_alloc_new w _, Nat.le_refl _, by unfold maxLen; omega, rfl, rfl⟩⟩, (Below.refl _ _).alloc (Nat.le_refl _) _⟩
  case round =>
    obtain ⟨k, hk1, hk2, rfl, hrow, hb⟩ := hrel
    have HB : Hid (Below w.heap.size w wr) := hb
    have HR : Hid (wr.ownsRow w.heap.size 3 1 _ k (wids k)) := hrow
    have hsz := hb.size
    obtain ⟨ga, gc, rfl⟩ : ∃ a c, _ = Value.slice a k c := by
      rcases hrow.2 with ⟨h, hn⟩ | ⟨g, cap, cur, h, _⟩
      · omega
      · exact ⟨_, _, h⟩
    clear hrow hb
    by_cases hlt : k ≤ 64
    · have hts : (text (numBits k)).size = Tok.numLen k := by
        rw [← numBits_length]; simp [text, chars, ByteArray.size]
      have hnl : Tok.numLen k ≤ 15 := by have := Tok.log2_le_self k (by omega); unfold Tok.numLen; omega
      have HW : Hid (wid k = ((Tok.numLen k : Nat) : Int)) := by show _ = _; unfold wid; rw [if_neg (by omega)]
      have HTN : Hid ((k : Int).toNat = k) := Int.toNat_natCast k
      go_wp2_with fail
      refine (number_calls (k : Int) _ (by omega) (by omega)).mono ?_
      rintro e w1 ⟨rfl, rfl⟩
      rw [HTN.out]
      go_wp2_with (at_builtin; refine wpList_append_own _ rfl _ _ 54 rfl w.heap.size 3 i0 (.int .i64 0) 1 8 Try.underlying54 hi hz0 hz1 hz2 rfl (by decide) _ _ _ rfl (World.ownsRow.alloc HR.out _) ⟨w1.heap.size, 0, none⟩ 1 1 [.int .i64 (Tok.numLen k)] rfl rfl ?d1a ?d2a ?d3a ?d4a ?d5a ?_)
      case d1a => intro j u hj; exact cell_new1 _ _ _ j u hj
      case d2a => first | rfl | (intro u hu; simp at hu; subst hu; rfl)
      case d3a => unfold maxLen; omega
      case d4a => omega
      case d5a => first | omega | (simp; omega)
      intro v' w2 hown' hgrow _
      have HB2 : Hid (Below w.heap.size w w2) := (HB.out.alloc (by omega) _).grown hgrow (by simp; omega) (fun k hk => (World.ownsRow.lt HR.out k hk).1)
      have HR2 : Hid (WidAt w2 w.heap.size v' (k + 1)) := by
        show w2.ownsRow _ _ _ _ _ _
        rw [wids_succ, HW.out]
        exact hown'
      clear hown' hgrow
      go_wp2
      go_roundw
      case rel => exact ⟨k + 1, by omega, by omega, by go_num, HR2.out, HB2.out⟩
      case measure => simp [intOf]; omega
    · have hk : k = 65 := by omega
      subst hk
      go_wp2
      go_ret
      exact ⟨HB.out, _, rfl, HR.out⟩
end Go.Proofs.Ytnpnaglgllcpfaa
