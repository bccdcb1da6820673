/-
  No cell of these rows narrows 'for every input' (looked for: loops, veiled, ifaces, maps, wideKeys, modest, calm, conditions, laid).
  DERIVED. THE GIVEN ROWS OF THIS SEAT. 7 by the template 'for every input the law returns true; each argument reads behind the call as it read before'; 0 by the template 'total and deterministic' (their statements: YtnpnaglgllcpfabTotals.lean).
  GIVEN WITH THE SEED: the statements are not yours to turn. If you find one false, say at which input.
  Laid BY PROGRAM, IN A SANDBOX (cutbox-rows.mjs): the forced cells as the released guide's own fill.sh prints them over the translation e9e9c73f965c0a9d… (all of the seat's roots in one cut). By AI agents, Wed Nov 11 2026. No macro, syntax, notation, axiom, sorry.
-/
import Derived.Test.YtnpnaglgllcpfabChecked
import GoSem.Claim
import GoSem.ClaimJoined
import GoSem.ClaimMapViews
import Derived.JoinedTies
import Derived.KernelRfl
namespace Go.Proofs.Ytnpnaglgllcpfab
/- THE CELL 'sum', in the pinned program and in every row, IS THE sha256 OF THE DUMP (.gsa) THAT YtnpnaglgllcpfabProg.lean LOADS. Nothing in Lean hashes anything: it is a label: what it is worth is what the hold of that sum in a sandbox is worth. -/
noncomputable def Try.pinned : Pinned := { name := "ytnpnaglgllcpfab", sum := "e9e9c73f965c0a9d6ba2de870b79e7c65854d07afb091df073da2cecb24ce68f", checked := Try.checked }
namespace Rows
def none {H : Type} : Left H := { results := [], args := [] }

/-- 'presskeep.Back': WHATEVER THE INPUT: true; the input reads as it did. -/
def backSpec : ChangeSpec := { name := "back", fn := fun _ => fun
  | [d] => { results := [.lit (.bool true)], args := [d] }
  | _ => none }
def backRow : OpenClaim := { program := "ytnpnaglgllcpfab", sum := "e9e9c73f965c0a9d6ba2de870b79e7c65854d07afb091df073da2cecb24ce68f", func := "press/presskeep.Back", spec := "back", apart := false }
def BackSaid : Prop := backRow.holds Try.pinned (OpenSpec.ofChange backSpec)

/-- ITS FALSE NEIGHBOUR: 'it returns false'. Refute it at one input. -/
def backWrong : ChangeSpec := { name := "back", fn := fun _ => fun
  | [d] => { results := [.lit (.bool false)], args := [d] }
  | _ => none }
def BackWrongFalsely : Prop := backRow.holds Try.pinned (OpenSpec.ofChange backWrong)

/-- 'presskeep.Least': WHATEVER THE INPUT: true; the input reads as it did. -/
def leastSpec : ChangeSpec := { name := "least", fn := fun _ => fun
  | [d1, d2] => { results := [.lit (.bool true)], args := [d1, d2] }
  | _ => none }
def leastRow : OpenClaim := { program := "ytnpnaglgllcpfab", sum := "e9e9c73f965c0a9d6ba2de870b79e7c65854d07afb091df073da2cecb24ce68f", func := "press/presskeep.Least", spec := "least", apart := false }
def LeastSaid : Prop := leastRow.holds Try.pinned (OpenSpec.ofChange leastSpec)

/-- ITS FALSE NEIGHBOUR: 'it returns false'. Refute it at one input. -/
def leastWrong : ChangeSpec := { name := "least", fn := fun _ => fun
  | [d1, d2] => { results := [.lit (.bool false)], args := [d1, d2] }
  | _ => none }
def LeastWrongFalsely : Prop := leastRow.holds Try.pinned (OpenSpec.ofChange leastWrong)

/-- 'presskeep.Shorter': WHATEVER THE INPUT: true; the input reads as it did. -/
def shorterSpec : ChangeSpec := { name := "shorter", fn := fun _ => fun
  | [d1, d2] => { results := [.lit (.bool true)], args := [d1, d2] }
  | _ => none }
def shorterRow : OpenClaim := { program := "ytnpnaglgllcpfab", sum := "e9e9c73f965c0a9d6ba2de870b79e7c65854d07afb091df073da2cecb24ce68f", func := "press/presskeep.Shorter", spec := "shorter", apart := false }
def ShorterSaid : Prop := shorterRow.holds Try.pinned (OpenSpec.ofChange shorterSpec)

/-- ITS FALSE NEIGHBOUR: 'it returns false'. Refute it at one input. -/
def shorterWrong : ChangeSpec := { name := "shorter", fn := fun _ => fun
  | [d1, d2] => { results := [.lit (.bool false)], args := [d1, d2] }
  | _ => none }
def ShorterWrongFalsely : Prop := shorterRow.holds Try.pinned (OpenSpec.ofChange shorterWrong)

/-- 'presskeep.Ordered': WHATEVER THE INPUT: true; the input reads as it did. -/
def orderedSpec : ChangeSpec := { name := "ordered", fn := fun _ => fun
  | [d1, d2, d3] => { results := [.lit (.bool true)], args := [d1, d2, d3] }
  | _ => none }
def orderedRow : OpenClaim := { program := "ytnpnaglgllcpfab", sum := "e9e9c73f965c0a9d6ba2de870b79e7c65854d07afb091df073da2cecb24ce68f", func := "press/presskeep.Ordered", spec := "ordered", apart := false }
def OrderedSaid : Prop := orderedRow.holds Try.pinned (OpenSpec.ofChange orderedSpec)

/-- ITS FALSE NEIGHBOUR: 'it returns false'. Refute it at one input. -/
def orderedWrong : ChangeSpec := { name := "ordered", fn := fun _ => fun
  | [d1, d2, d3] => { results := [.lit (.bool false)], args := [d1, d2, d3] }
  | _ => none }
def OrderedWrongFalsely : Prop := orderedRow.holds Try.pinned (OpenSpec.ofChange orderedWrong)

/-- 'presskeep.Cut': WHATEVER THE INPUT: true; the input reads as it did. -/
def cutSpec : ChangeSpec := { name := "cut", fn := fun _ => fun
  | [d1, d2, d3] => { results := [.lit (.bool true)], args := [d1, d2, d3] }
  | _ => none }
def cutRow : OpenClaim := { program := "ytnpnaglgllcpfab", sum := "e9e9c73f965c0a9d6ba2de870b79e7c65854d07afb091df073da2cecb24ce68f", func := "press/presskeep.Cut", spec := "cut", apart := false }
def CutSaid : Prop := cutRow.holds Try.pinned (OpenSpec.ofChange cutSpec)

/-- ITS FALSE NEIGHBOUR: 'it returns false'. Refute it at one input. -/
def cutWrong : ChangeSpec := { name := "cut", fn := fun _ => fun
  | [d1, d2, d3] => { results := [.lit (.bool false)], args := [d1, d2, d3] }
  | _ => none }
def CutWrongFalsely : Prop := cutRow.holds Try.pinned (OpenSpec.ofChange cutWrong)

/-- 'presskeep.Chunks': WHATEVER THE INPUT: true; the input reads as it did. -/
def chunksSpec : ChangeSpec := { name := "chunks", fn := fun _ => fun
  | [d1, d2, d3] => { results := [.lit (.bool true)], args := [d1, d2, d3] }
  | _ => none }
def chunksRow : OpenClaim := { program := "ytnpnaglgllcpfab", sum := "e9e9c73f965c0a9d6ba2de870b79e7c65854d07afb091df073da2cecb24ce68f", func := "press/presskeep.Chunks", spec := "chunks", apart := false }
def ChunksSaid : Prop := chunksRow.holds Try.pinned (OpenSpec.ofChange chunksSpec)

/-- ITS FALSE NEIGHBOUR: 'it returns false'. Refute it at one input. -/
def chunksWrong : ChangeSpec := { name := "chunks", fn := fun _ => fun
  | [d1, d2, d3] => { results := [.lit (.bool false)], args := [d1, d2, d3] }
  | _ => none }
def ChunksWrongFalsely : Prop := chunksRow.holds Try.pinned (OpenSpec.ofChange chunksWrong)

/-- 'presskeep.Steady': WHATEVER THE INPUT: true; the input reads as it did. -/
def steadySpec : ChangeSpec := { name := "steady", fn := fun _ => fun
  | [d1, d2] => { results := [.lit (.bool true)], args := [d1, d2] }
  | _ => none }
def steadyRow : OpenClaim := { program := "ytnpnaglgllcpfab", sum := "e9e9c73f965c0a9d6ba2de870b79e7c65854d07afb091df073da2cecb24ce68f", func := "press/presskeep.Steady", spec := "steady", apart := false }
def SteadySaid : Prop := steadyRow.holds Try.pinned (OpenSpec.ofChange steadySpec)

/-- ITS FALSE NEIGHBOUR: 'it returns false'. Refute it at one input. -/
def steadyWrong : ChangeSpec := { name := "steady", fn := fun _ => fun
  | [d1, d2] => { results := [.lit (.bool false)], args := [d1, d2] }
  | _ => none }
def SteadyWrongFalsely : Prop := steadyRow.holds Try.pinned (OpenSpec.ofChange steadyWrong)

/- THE SECOND FORM. 'bulk': how many values and letters a reading holds, each counted each time it is reached (what is shared counts as often as it is met; a slice's spare places count too). A statement '..UptoSaid' is the law's where the arguments, and the package variables that the reading takes, are together of bulk at most 1048576: NARROWER than '..Said'. Prove '..Said' where nothing that the law and all that it calls make is longer than what came in: it says more and counts as full. Else prove '..UptoSaid'. A law counts once. -/
mutual
def uptoBulk {H : Type} : DataW H → Nat
  | .lit (.string bytes) => bytes.length + 1
  | .lit _ => 1
  | .nil => 1
  | .ptr d => uptoBulk d + 1
  | .slice elems spare => uptoBulkAll elems + uptoBulkAll spare + 1
  | .agg parts => uptoBulkAll parts + 1
  | .iface _ d => uptoBulk d + 1
  | .map entries => uptoBulkEntries entries + 1
  | .held _ => 1
def uptoBulkAll {H : Type} : List (DataW H) → Nat
  | [] => 0
  | d :: r => uptoBulk d + uptoBulkAll r
def uptoBulkEntries {H : Type} : List (Lit × DataW H) → Nat
  | [] => 0
  | x :: r => uptoBulkEntry x + uptoBulkEntries r
def uptoBulkEntry {H : Type} : Lit × DataW H → Nat
  | (.string bytes, d) => bytes.length + uptoBulk d + 1
  | (_, d) => uptoBulk d + 1
 end
def uptoSmall : (H : Type) → List (DataW H) → Bool := fun _ ds => decide (uptoBulkAll ds ≤ 1048576)
def OpenSpec.upto (s : _root_.Go.ChangeSpec) : _root_.Go.OpenSpec := { _root_.Go.OpenSpec.ofChange s with cond := some uptoSmall }

/-- 'presskeep.Back', WHERE WHAT IT READS IS OF BULK AT MOST 1048576: true; the input reads as it did. -/
def backUptoRow : OpenClaim := { program := "ytnpnaglgllcpfab", sum := "e9e9c73f965c0a9d6ba2de870b79e7c65854d07afb091df073da2cecb24ce68f", func := "press/presskeep.Back", spec := "back", apart := false, narrowed := true }
def BackUptoSaid : Prop := backUptoRow.holds Try.pinned (OpenSpec.upto backSpec)

/-- 'presskeep.Least', WHERE WHAT IT READS IS OF BULK AT MOST 1048576: true; the input reads as it did. -/
def leastUptoRow : OpenClaim := { program := "ytnpnaglgllcpfab", sum := "e9e9c73f965c0a9d6ba2de870b79e7c65854d07afb091df073da2cecb24ce68f", func := "press/presskeep.Least", spec := "least", apart := false, narrowed := true }
def LeastUptoSaid : Prop := leastUptoRow.holds Try.pinned (OpenSpec.upto leastSpec)

/-- 'presskeep.Shorter', WHERE WHAT IT READS IS OF BULK AT MOST 1048576: true; the input reads as it did. -/
def shorterUptoRow : OpenClaim := { program := "ytnpnaglgllcpfab", sum := "e9e9c73f965c0a9d6ba2de870b79e7c65854d07afb091df073da2cecb24ce68f", func := "press/presskeep.Shorter", spec := "shorter", apart := false, narrowed := true }
def ShorterUptoSaid : Prop := shorterUptoRow.holds Try.pinned (OpenSpec.upto shorterSpec)

/-- 'presskeep.Ordered', WHERE WHAT IT READS IS OF BULK AT MOST 1048576: true; the input reads as it did. -/
def orderedUptoRow : OpenClaim := { program := "ytnpnaglgllcpfab", sum := "e9e9c73f965c0a9d6ba2de870b79e7c65854d07afb091df073da2cecb24ce68f", func := "press/presskeep.Ordered", spec := "ordered", apart := false, narrowed := true }
def OrderedUptoSaid : Prop := orderedUptoRow.holds Try.pinned (OpenSpec.upto orderedSpec)

/-- 'presskeep.Cut', WHERE WHAT IT READS IS OF BULK AT MOST 1048576: true; the input reads as it did. -/
def cutUptoRow : OpenClaim := { program := "ytnpnaglgllcpfab", sum := "e9e9c73f965c0a9d6ba2de870b79e7c65854d07afb091df073da2cecb24ce68f", func := "press/presskeep.Cut", spec := "cut", apart := false, narrowed := true }
def CutUptoSaid : Prop := cutUptoRow.holds Try.pinned (OpenSpec.upto cutSpec)

/-- 'presskeep.Chunks', WHERE WHAT IT READS IS OF BULK AT MOST 1048576: true; the input reads as it did. -/
def chunksUptoRow : OpenClaim := { program := "ytnpnaglgllcpfab", sum := "e9e9c73f965c0a9d6ba2de870b79e7c65854d07afb091df073da2cecb24ce68f", func := "press/presskeep.Chunks", spec := "chunks", apart := false, narrowed := true }
def ChunksUptoSaid : Prop := chunksUptoRow.holds Try.pinned (OpenSpec.upto chunksSpec)

/-- 'presskeep.Steady', WHERE WHAT IT READS IS OF BULK AT MOST 1048576: true; the input reads as it did. -/
def steadyUptoRow : OpenClaim := { program := "ytnpnaglgllcpfab", sum := "e9e9c73f965c0a9d6ba2de870b79e7c65854d07afb091df073da2cecb24ce68f", func := "press/presskeep.Steady", spec := "steady", apart := false, narrowed := true }
def SteadyUptoSaid : Prop := steadyUptoRow.holds Try.pinned (OpenSpec.upto steadySpec)

end Rows
end Go.Proofs.Ytnpnaglgllcpfab
