/-
  No cell of these rows narrows 'for every input' (looked for: loops, veiled, ifaces, maps, wideKeys, modest, calm, conditions, laid).
  DERIVED. THE GIVEN ROWS OF THIS SEAT. 11 by the template 'for every input the law returns true; each argument reads behind the call as it read before'; 0 by the template 'total and deterministic' (their statements: YtnpnaglgllcpfaaTotals.lean).
  GIVEN WITH THE SEED: the statements are not yours to turn. If you find one false, say at which input.
  Laid BY PROGRAM, IN A SANDBOX (cutbox-rows.mjs): the forced cells as the released guide's own fill.sh prints them over the translation b8f8231c323f19c2… (all of the seat's roots in one cut). By AI agents, Wed Nov 11 2026. No macro, syntax, notation, axiom, sorry.
-/
import Derived.Test.YtnpnaglgllcpfaaChecked
import GoSem.Claim
import GoSem.ClaimJoined
import GoSem.ClaimMapViews
import Derived.JoinedTies
import Derived.KernelRfl
namespace Go.Proofs.Ytnpnaglgllcpfaa
/- THE CELL 'sum', in the pinned program and in every row, IS THE sha256 OF THE DUMP (.gsa) THAT YtnpnaglgllcpfaaProg.lean LOADS. Nothing in Lean hashes anything: it is a label: what it is worth is what the hold of that sum in a sandbox is worth. -/
noncomputable def Try.pinned : Pinned := { name := "ytnpnaglgllcpfaa", sum := "b8f8231c323f19c2aa5ada85df3f34c7fbe705dbca2f0a90387df8c33f0fcb85", checked := Try.checked }
namespace Rows
def none {H : Type} : Left H := { results := [], args := [] }

/-- 'presslaw.Sums': WHATEVER THE INPUT: true; the input reads as it did. -/
def sumsSpec : ChangeSpec := { name := "sums", fn := fun _ => fun
  | [d] => { results := [.lit (.bool true)], args := [d] }
  | _ => none }
def sumsRow : OpenClaim := { program := "ytnpnaglgllcpfaa", sum := "b8f8231c323f19c2aa5ada85df3f34c7fbe705dbca2f0a90387df8c33f0fcb85", func := "press/presslaw.Sums", spec := "sums", apart := false }
def SumsSaid : Prop := sumsRow.holds Try.pinned (OpenSpec.ofChange sumsSpec)

/-- ITS FALSE NEIGHBOUR: 'it returns false'. Refute it at one input. -/
def sumsWrong : ChangeSpec := { name := "sums", fn := fun _ => fun
  | [d] => { results := [.lit (.bool false)], args := [d] }
  | _ => none }
def SumsWrongFalsely : Prop := sumsRow.holds Try.pinned (OpenSpec.ofChange sumsWrong)

/-- 'presslaw.Expands': WHATEVER THE INPUT: true; the input reads as it did. -/
def expandsSpec : ChangeSpec := { name := "expands", fn := fun _ => fun
  | [d] => { results := [.lit (.bool true)], args := [d] }
  | _ => none }
def expandsRow : OpenClaim := { program := "ytnpnaglgllcpfaa", sum := "b8f8231c323f19c2aa5ada85df3f34c7fbe705dbca2f0a90387df8c33f0fcb85", func := "press/presslaw.Expands", spec := "expands", apart := false }
def ExpandsSaid : Prop := expandsRow.holds Try.pinned (OpenSpec.ofChange expandsSpec)

/-- ITS FALSE NEIGHBOUR: 'it returns false'. Refute it at one input. -/
def expandsWrong : ChangeSpec := { name := "expands", fn := fun _ => fun
  | [d] => { results := [.lit (.bool false)], args := [d] }
  | _ => none }
def ExpandsWrongFalsely : Prop := expandsRow.holds Try.pinned (OpenSpec.ofChange expandsWrong)

/-- 'presslaw.Packs': WHATEVER THE INPUT: true; the input reads as it did. -/
def packsSpec : ChangeSpec := { name := "packs", fn := fun _ => fun
  | [d] => { results := [.lit (.bool true)], args := [d] }
  | _ => none }
def packsRow : OpenClaim := { program := "ytnpnaglgllcpfaa", sum := "b8f8231c323f19c2aa5ada85df3f34c7fbe705dbca2f0a90387df8c33f0fcb85", func := "press/presslaw.Packs", spec := "packs", apart := false }
def PacksSaid : Prop := packsRow.holds Try.pinned (OpenSpec.ofChange packsSpec)

/-- ITS FALSE NEIGHBOUR: 'it returns false'. Refute it at one input. -/
def packsWrong : ChangeSpec := { name := "packs", fn := fun _ => fun
  | [d] => { results := [.lit (.bool false)], args := [d] }
  | _ => none }
def PacksWrongFalsely : Prop := packsRow.holds Try.pinned (OpenSpec.ofChange packsWrong)

/-- 'presslaw.Reads': WHATEVER THE INPUT: true; the input reads as it did. -/
def readsSpec : ChangeSpec := { name := "reads", fn := fun _ => fun
  | [d] => { results := [.lit (.bool true)], args := [d] }
  | _ => none }
def readsRow : OpenClaim := { program := "ytnpnaglgllcpfaa", sum := "b8f8231c323f19c2aa5ada85df3f34c7fbe705dbca2f0a90387df8c33f0fcb85", func := "press/presslaw.Reads", spec := "reads", apart := false }
def ReadsSaid : Prop := readsRow.holds Try.pinned (OpenSpec.ofChange readsSpec)

/-- ITS FALSE NEIGHBOUR: 'it returns false'. Refute it at one input. -/
def readsWrong : ChangeSpec := { name := "reads", fn := fun _ => fun
  | [d] => { results := [.lit (.bool false)], args := [d] }
  | _ => none }
def ReadsWrongFalsely : Prop := readsRow.holds Try.pinned (OpenSpec.ofChange readsWrong)

/-- 'presslaw.Parses': WHATEVER THE INPUT: true; the input reads as it did. -/
def parsesSpec : ChangeSpec := { name := "parses", fn := fun _ => fun
  | [d] => { results := [.lit (.bool true)], args := [d] }
  | _ => none }
def parsesRow : OpenClaim := { program := "ytnpnaglgllcpfaa", sum := "b8f8231c323f19c2aa5ada85df3f34c7fbe705dbca2f0a90387df8c33f0fcb85", func := "press/presslaw.Parses", spec := "parses", apart := false }
def ParsesSaid : Prop := parsesRow.holds Try.pinned (OpenSpec.ofChange parsesSpec)

/-- ITS FALSE NEIGHBOUR: 'it returns false'. Refute it at one input. -/
def parsesWrong : ChangeSpec := { name := "parses", fn := fun _ => fun
  | [d] => { results := [.lit (.bool false)], args := [d] }
  | _ => none }
def ParsesWrongFalsely : Prop := parsesRow.holds Try.pinned (OpenSpec.ofChange parsesWrong)

/-- 'presslaw.Counts': WHATEVER THE INPUT: true; the input reads as it did. -/
def countsSpec : ChangeSpec := { name := "counts", fn := fun _ => fun
  | [d] => { results := [.lit (.bool true)], args := [d] }
  | _ => none }
def countsRow : OpenClaim := { program := "ytnpnaglgllcpfaa", sum := "b8f8231c323f19c2aa5ada85df3f34c7fbe705dbca2f0a90387df8c33f0fcb85", func := "press/presslaw.Counts", spec := "counts", apart := false }
def CountsSaid : Prop := countsRow.holds Try.pinned (OpenSpec.ofChange countsSpec)

/-- ITS FALSE NEIGHBOUR: 'it returns false'. Refute it at one input. -/
def countsWrong : ChangeSpec := { name := "counts", fn := fun _ => fun
  | [d] => { results := [.lit (.bool false)], args := [d] }
  | _ => none }
def CountsWrongFalsely : Prop := countsRow.holds Try.pinned (OpenSpec.ofChange countsWrong)

/-- 'presslaw.Nths': WHATEVER THE INPUT: true; the input reads as it did. -/
def nthsSpec : ChangeSpec := { name := "nths", fn := fun _ => fun
  | [d1, d2] => { results := [.lit (.bool true)], args := [d1, d2] }
  | _ => none }
def nthsRow : OpenClaim := { program := "ytnpnaglgllcpfaa", sum := "b8f8231c323f19c2aa5ada85df3f34c7fbe705dbca2f0a90387df8c33f0fcb85", func := "press/presslaw.Nths", spec := "nths", apart := false }
def NthsSaid : Prop := nthsRow.holds Try.pinned (OpenSpec.ofChange nthsSpec)

/-- ITS FALSE NEIGHBOUR: 'it returns false'. Refute it at one input. -/
def nthsWrong : ChangeSpec := { name := "nths", fn := fun _ => fun
  | [d1, d2] => { results := [.lit (.bool false)], args := [d1, d2] }
  | _ => none }
def NthsWrongFalsely : Prop := nthsRow.holds Try.pinned (OpenSpec.ofChange nthsWrong)

/-- 'presslaw.Compresses': WHATEVER THE INPUT: true; the input reads as it did. -/
def compressesSpec : ChangeSpec := { name := "compresses", fn := fun _ => fun
  | [d] => { results := [.lit (.bool true)], args := [d] }
  | _ => none }
def compressesRow : OpenClaim := { program := "ytnpnaglgllcpfaa", sum := "b8f8231c323f19c2aa5ada85df3f34c7fbe705dbca2f0a90387df8c33f0fcb85", func := "press/presslaw.Compresses", spec := "compresses", apart := false }
def CompressesSaid : Prop := compressesRow.holds Try.pinned (OpenSpec.ofChange compressesSpec)

/-- ITS FALSE NEIGHBOUR: 'it returns false'. Refute it at one input. -/
def compressesWrong : ChangeSpec := { name := "compresses", fn := fun _ => fun
  | [d] => { results := [.lit (.bool false)], args := [d] }
  | _ => none }
def CompressesWrongFalsely : Prop := compressesRow.holds Try.pinned (OpenSpec.ofChange compressesWrong)

/-- 'presslaw.Writes': WHATEVER THE INPUT: true; the input reads as it did. -/
def writesSpec : ChangeSpec := { name := "writes", fn := fun _ => fun
  | [d1, d2] => { results := [.lit (.bool true)], args := [d1, d2] }
  | _ => none }
def writesRow : OpenClaim := { program := "ytnpnaglgllcpfaa", sum := "b8f8231c323f19c2aa5ada85df3f34c7fbe705dbca2f0a90387df8c33f0fcb85", func := "press/presslaw.Writes", spec := "writes", apart := false }
def WritesSaid : Prop := writesRow.holds Try.pinned (OpenSpec.ofChange writesSpec)

/-- ITS FALSE NEIGHBOUR: 'it returns false'. Refute it at one input. -/
def writesWrong : ChangeSpec := { name := "writes", fn := fun _ => fun
  | [d1, d2] => { results := [.lit (.bool false)], args := [d1, d2] }
  | _ => none }
def WritesWrongFalsely : Prop := writesRow.holds Try.pinned (OpenSpec.ofChange writesWrong)

/-- 'presslaw.Feeds': WHATEVER THE INPUT: true; the input reads as it did. -/
def feedsSpec : ChangeSpec := { name := "feeds", fn := fun _ => fun
  | [d1, d2] => { results := [.lit (.bool true)], args := [d1, d2] }
  | _ => none }
def feedsRow : OpenClaim := { program := "ytnpnaglgllcpfaa", sum := "b8f8231c323f19c2aa5ada85df3f34c7fbe705dbca2f0a90387df8c33f0fcb85", func := "press/presslaw.Feeds", spec := "feeds", apart := false }
def FeedsSaid : Prop := feedsRow.holds Try.pinned (OpenSpec.ofChange feedsSpec)

/-- ITS FALSE NEIGHBOUR: 'it returns false'. Refute it at one input. -/
def feedsWrong : ChangeSpec := { name := "feeds", fn := fun _ => fun
  | [d1, d2] => { results := [.lit (.bool false)], args := [d1, d2] }
  | _ => none }
def FeedsWrongFalsely : Prop := feedsRow.holds Try.pinned (OpenSpec.ofChange feedsWrong)

/-- 'presskeep.Again': WHATEVER THE INPUT: true; the input reads as it did. -/
def againSpec : ChangeSpec := { name := "again", fn := fun _ => fun
  | [d1, d2, d3] => { results := [.lit (.bool true)], args := [d1, d2, d3] }
  | _ => none }
def againRow : OpenClaim := { program := "ytnpnaglgllcpfaa", sum := "b8f8231c323f19c2aa5ada85df3f34c7fbe705dbca2f0a90387df8c33f0fcb85", func := "press/presskeep.Again", spec := "again", apart := false }
def AgainSaid : Prop := againRow.holds Try.pinned (OpenSpec.ofChange againSpec)

/-- ITS FALSE NEIGHBOUR: 'it returns false'. Refute it at one input. -/
def againWrong : ChangeSpec := { name := "again", fn := fun _ => fun
  | [d1, d2, d3] => { results := [.lit (.bool false)], args := [d1, d2, d3] }
  | _ => none }
def AgainWrongFalsely : Prop := againRow.holds Try.pinned (OpenSpec.ofChange againWrong)

/- THE SECOND FORM. 'bulk': how many values and letters a reading holds, each counted each time it is reached (what is shared counts as often as it is met; a slice's spare places count too). A statement '..UptoSaid' is the law's where the arguments, and the package variables that the reading takes, are together of bulk at most 1048576: NARROWER than '..Said'. Prove '..Said' where nothing that the law and all that it calls make is longer than what came in: it says more and counts as full. Else prove '..UptoSaid'. A law counts once. -/
mutual
def uptoBulk {H : Type} : DataW H → Nat
  | .lit (.string bytes) => bytes.length + 1
  | .lit _ => 1
  | .nil => 1
  | .ptr d => uptoBulk d + 1
  | .slice elems spare => uptoBulkAll elems + uptoBulkAll spare + 1
  | .agg parts => uptoBulkAll parts + 1
  | .iface _ d => uptoBulk d + 1
  | .map entries => uptoBulkEntries entries + 1
  | .held _ => 1
def uptoBulkAll {H : Type} : List (DataW H) → Nat
  | [] => 0
  | d :: r => uptoBulk d + uptoBulkAll r
def uptoBulkEntries {H : Type} : List (Lit × DataW H) → Nat
  | [] => 0
  | x :: r => uptoBulkEntry x + uptoBulkEntries r
def uptoBulkEntry {H : Type} : Lit × DataW H → Nat
  | (.string bytes, d) => bytes.length + uptoBulk d + 1
  | (_, d) => uptoBulk d + 1
 end
def uptoSmall : (H : Type) → List (DataW H) → Bool := fun _ ds => decide (uptoBulkAll ds ≤ 1048576)
def OpenSpec.upto (s : _root_.Go.ChangeSpec) : _root_.Go.OpenSpec := { _root_.Go.OpenSpec.ofChange s with cond := some uptoSmall }

/-- 'presslaw.Sums', WHERE WHAT IT READS IS OF BULK AT MOST 1048576: true; the input reads as it did. -/
def sumsUptoRow : OpenClaim := { program := "ytnpnaglgllcpfaa", sum := "b8f8231c323f19c2aa5ada85df3f34c7fbe705dbca2f0a90387df8c33f0fcb85", func := "press/presslaw.Sums", spec := "sums", apart := false, narrowed := true }
def SumsUptoSaid : Prop := sumsUptoRow.holds Try.pinned (OpenSpec.upto sumsSpec)

/-- 'presslaw.Expands', WHERE WHAT IT READS IS OF BULK AT MOST 1048576: true; the input reads as it did. -/
def expandsUptoRow : OpenClaim := { program := "ytnpnaglgllcpfaa", sum := "b8f8231c323f19c2aa5ada85df3f34c7fbe705dbca2f0a90387df8c33f0fcb85", func := "press/presslaw.Expands", spec := "expands", apart := false, narrowed := true }
def ExpandsUptoSaid : Prop := expandsUptoRow.holds Try.pinned (OpenSpec.upto expandsSpec)

/-- 'presslaw.Packs', WHERE WHAT IT READS IS OF BULK AT MOST 1048576: true; the input reads as it did. -/
def packsUptoRow : OpenClaim := { program := "ytnpnaglgllcpfaa", sum := "b8f8231c323f19c2aa5ada85df3f34c7fbe705dbca2f0a90387df8c33f0fcb85", func := "press/presslaw.Packs", spec := "packs", apart := false, narrowed := true }
def PacksUptoSaid : Prop := packsUptoRow.holds Try.pinned (OpenSpec.upto packsSpec)

/-- 'presslaw.Reads', WHERE WHAT IT READS IS OF BULK AT MOST 1048576: true; the input reads as it did. -/
def readsUptoRow : OpenClaim := { program := "ytnpnaglgllcpfaa", sum := "b8f8231c323f19c2aa5ada85df3f34c7fbe705dbca2f0a90387df8c33f0fcb85", func := "press/presslaw.Reads", spec := "reads", apart := false, narrowed := true }
def ReadsUptoSaid : Prop := readsUptoRow.holds Try.pinned (OpenSpec.upto readsSpec)

/-- 'presslaw.Parses', WHERE WHAT IT READS IS OF BULK AT MOST 1048576: true; the input reads as it did. -/
def parsesUptoRow : OpenClaim := { program := "ytnpnaglgllcpfaa", sum := "b8f8231c323f19c2aa5ada85df3f34c7fbe705dbca2f0a90387df8c33f0fcb85", func := "press/presslaw.Parses", spec := "parses", apart := false, narrowed := true }
def ParsesUptoSaid : Prop := parsesUptoRow.holds Try.pinned (OpenSpec.upto parsesSpec)

/-- 'presslaw.Counts', WHERE WHAT IT READS IS OF BULK AT MOST 1048576: true; the input reads as it did. -/
def countsUptoRow : OpenClaim := { program := "ytnpnaglgllcpfaa", sum := "b8f8231c323f19c2aa5ada85df3f34c7fbe705dbca2f0a90387df8c33f0fcb85", func := "press/presslaw.Counts", spec := "counts", apart := false, narrowed := true }
def CountsUptoSaid : Prop := countsUptoRow.holds Try.pinned (OpenSpec.upto countsSpec)

/-- 'presslaw.Nths', WHERE WHAT IT READS IS OF BULK AT MOST 1048576: true; the input reads as it did. -/
def nthsUptoRow : OpenClaim := { program := "ytnpnaglgllcpfaa", sum := "b8f8231c323f19c2aa5ada85df3f34c7fbe705dbca2f0a90387df8c33f0fcb85", func := "press/presslaw.Nths", spec := "nths", apart := false, narrowed := true }
def NthsUptoSaid : Prop := nthsUptoRow.holds Try.pinned (OpenSpec.upto nthsSpec)

/-- 'presslaw.Compresses', WHERE WHAT IT READS IS OF BULK AT MOST 1048576: true; the input reads as it did. -/
def compressesUptoRow : OpenClaim := { program := "ytnpnaglgllcpfaa", sum := "b8f8231c323f19c2aa5ada85df3f34c7fbe705dbca2f0a90387df8c33f0fcb85", func := "press/presslaw.Compresses", spec := "compresses", apart := false, narrowed := true }
def CompressesUptoSaid : Prop := compressesUptoRow.holds Try.pinned (OpenSpec.upto compressesSpec)

/-- 'presslaw.Writes', WHERE WHAT IT READS IS OF BULK AT MOST 1048576: true; the input reads as it did. -/
def writesUptoRow : OpenClaim := { program := "ytnpnaglgllcpfaa", sum := "b8f8231c323f19c2aa5ada85df3f34c7fbe705dbca2f0a90387df8c33f0fcb85", func := "press/presslaw.Writes", spec := "writes", apart := false, narrowed := true }
def WritesUptoSaid : Prop := writesUptoRow.holds Try.pinned (OpenSpec.upto writesSpec)

/-- 'presslaw.Feeds', WHERE WHAT IT READS IS OF BULK AT MOST 1048576: true; the input reads as it did. -/
def feedsUptoRow : OpenClaim := { program := "ytnpnaglgllcpfaa", sum := "b8f8231c323f19c2aa5ada85df3f34c7fbe705dbca2f0a90387df8c33f0fcb85", func := "press/presslaw.Feeds", spec := "feeds", apart := false, narrowed := true }
def FeedsUptoSaid : Prop := feedsUptoRow.holds Try.pinned (OpenSpec.upto feedsSpec)

/-- 'presskeep.Again', WHERE WHAT IT READS IS OF BULK AT MOST 1048576: true; the input reads as it did. -/
def againUptoRow : OpenClaim := { program := "ytnpnaglgllcpfaa", sum := "b8f8231c323f19c2aa5ada85df3f34c7fbe705dbca2f0a90387df8c33f0fcb85", func := "press/presskeep.Again", spec := "again", apart := false, narrowed := true }
def AgainUptoSaid : Prop := againUptoRow.holds Try.pinned (OpenSpec.upto againSpec)

end Rows
end Go.Proofs.Ytnpnaglgllcpfaa
