/-
  What Expand and Cost answer of tokens in memory.
-/
import Derived.Test.YtnpnaglgllcpfabMk
namespace Go.Proofs.Ytnpnaglgllcpfab
set_option maxRecDepth 100000
open Go.RowKit

theorem pressExpand_calls (a : Option Addr) (ts : List Tok) (cap : Nat) (w : World) (hl : ts.length ≤ 9223372036854775807) (ht : ToksAt w a ts) :
    Calls Try.prog 20 #[.slice a ts.length cap] w fun e w' => Below w.heap.size w w' ∧
      ((Tok.expand [] ts = none ∧ e = .returned (.tuple #[.slice none 0 0, .int .i64 2])) ∨
       ∃ out v, Tok.expand [] ts = some out ∧ out.length ≤ 64 ∧ e = .returned (.tuple #[v, .int .i64 0]) ∧ OwnB w' w.heap.size v out) := by
  have HT : Hid (ToksAt w a ts) := ht
  clear ht
  go_enter Try.func20, Try.ntmps20
  go_wp2_with fail
  refine (expand_calls a ts cap w hl HT.out).mono ?_
  rintro e w1 ⟨hb, ⟨he, rfl⟩ | ⟨out, v, he, ho, rfl, hown⟩⟩
  · have HE : Hid _ := he
    clear he
    go_wp2
    go_ret2
    exact ⟨hb, .inl ⟨HE.out, rfl⟩⟩
  · have HE : Hid _ := he
    have HO : Hid _ := hown
    clear he hown
    go_wp2
    go_ret2
    exact ⟨hb, .inr ⟨out, v, HE.out, ho, rfl, HO.out⟩⟩
theorem pressCost_calls (a : Option Addr) (ts : List Tok) (cap : Nat) (w : World) (hl : ts.length ≤ 9223372036854775807) (ht : ToksAt w a ts) :
    Calls Try.prog 19 #[.slice a ts.length cap] w fun e w' => Below w.heap.size w w' ∧
      ((Tok.expand [] ts = none ∧ e = .returned (.tuple #[.int .i64 0, .int .i64 2])) ∨
       ∃ out, Tok.expand [] ts = some out ∧ e = .returned (.tuple #[.int .i64 (Tok.costs ts), .int .i64 0])) := by
  have HT : Hid (ToksAt w a ts) := ht
  clear ht
  go_enter Try.func19, Try.ntmps19
  go_wp2_with fail
  refine (cost_calls a ts cap w hl HT.out).mono ?_
  rintro e w1 ⟨hb, rfl⟩
  cases he : Tok.expand [] ts with
  | none =>
    rw [Tok.okB_none he, Tok.costAns_none he]
    have HE : Hid _ := he
    clear he
    go_wp2
    go_ret2
    exact ⟨hb, .inl ⟨HE.out, rfl⟩⟩
  | some out =>
    rw [Tok.okB_some he, Tok.costAns_some he]
    have HE : Hid _ := he
    clear he
    go_wp2
    go_ret2
    exact ⟨hb, .inr ⟨out, HE.out, rfl⟩⟩
end Go.Proofs.Ytnpnaglgllcpfab
