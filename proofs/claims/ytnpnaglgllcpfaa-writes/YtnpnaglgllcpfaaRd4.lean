/-
  What the document's reader does to memory: a frame's tokens.
-/
import Derived.Test.YtnpnaglgllcpfaaRdA
import Derived.Test.YtnpnaglgllcpfaaRd3
import Derived.Deep.AppendLies
namespace Go.Proofs.Ytnpnaglgllcpfaa
set_option maxRecDepth 100000
open Go.RowKit

/-- What holds at the head of the loop over a frame's tokens. -/
def FrRel (w wr : World) (q : Nat) (L : List Bool) (n n0 g : Nat) (vP vD vE v : Value) (made : Nat) : Prop :=
  ∃ (acc : List Tok) (m : Nat) (E : Int), TokRow wr w.heap.size v acc ∧ made ≤ 192 ∧ OneKept w wr q ∧ TextAt wr q L m E vP vD vE ∧ m ≤ L.length ∧ acc.length ≤ 65 ∧
    ((E = 0 ∧ n0 ≤ m ∧ g = n + 1 - made ∧ made ≤ n ∧ acc.length ≤ made ∧ (∃ out, Tok.expand [] acc = some out ∧ out.length = made) ∧ rToks n n 0 (L.drop n0) = pre acc (rToks n (n - acc.length) made (L.drop m))) ∨
     (E ≠ 0 ∧ g = 0 ∧ rToks n n 0 (L.drop n0) = .error E))
/-- How the loop over a frame's tokens ends. -/
def FrEnd (w wr : World) (q : Nat) (L : List Bool) (n n0 : Nat) (vP vD vE v : Value) : Prop :=
  ∃ (acc : List Tok) (m : Nat), TokRow wr w.heap.size v acc ∧ OneKept w wr q ∧ m ≤ L.length ∧ acc.length ≤ 65 ∧
    ((∃ E, E ≠ 0 ∧ TextAt wr q L m E vP vD vE ∧ rToks n n 0 (L.drop n0) = .error E) ∨
     (∃ out, Tok.expand [] acc = some out ∧ out.length = n ∧ TextAt wr q L m 0 vP vD vE ∧ rToks n n 0 (L.drop n0) = .ok (acc, L.drop m)))
theorem frame_err (q : Nat) (L : List Bool) (n : Nat) (E m : Int) (vP vD vE : Value) (w : World) (h : TextAt w q L n E vP vD vE) (hE : E ≠ 0) :
    Calls Try.prog 82 #[.pointer (some ⟨q, 0, none⟩), .int .i64 m] w fun r w' => r = .returned (.tuple #[]) ∧ w' = w := by
  obtain ⟨⟨c0, c1, c2⟩, f1, f2⟩ := h.cell
  have HT : Hid (TextAt w q L n E vP vD vE) := h
  have HE : Hid (E ≠ 0) := hE
  have hE1 : (E == 0) = false := beq_eq_false_iff_ne.2 hE
  have hE' : (E != 0) = true := by simpa using hE
  clear h c0 c1 f1 f2 hE
  go_enter Try.func82, Try.ntmps82
  go_wp2_with fail
  refine wp_loop_rounds 1 ?_
  rw [rounds_succ]
  go_wp2_with fail
  refine (rest_err q L n E vP vD vE _ HT.out HE.out).mono ?_
  rintro r w1 ⟨rfl, rfl⟩
  go_wp2_with fail
  refine (take_err q L n E 8 vP vD vE _ HT.out HE.out).mono ?_
  rintro r w2 ⟨rfl, rfl⟩
  go_wp2_with fail
  refine (take_err q L n E 8 vP vD vE _ HT.out HE.out).mono ?_
  rintro r w3 ⟨rfl, rfl⟩
  go_wp2
  go_returns
  exact ⟨rfl, rfl⟩
end Go.Proofs.Ytnpnaglgllcpfaa
