/-
  No cell of these rows narrows 'for every input' (looked for: loops, veiled, ifaces, maps, wideKeys, modest, calm, conditions, laid).
  DERIVED. THE GIVEN ROWS OF THIS SEAT. 5 by the template 'for every input the law returns true; each argument reads behind the call as it read before'; 0 by the template 'total and deterministic' (their statements: YtocphogddjcblaaTotals.lean).
  GIVEN WITH THE SEED: the statements are not yours to turn. If you find one false, say at which input.
  Laid BY PROGRAM, IN A SANDBOX (cutbox-rows.mjs): the forced cells as the released guide's own fill.sh prints them over the translation 99f9b142dc6c4fc3… (all of the seat's roots in one cut). By AI agents, Wed Nov 11 2026. No macro, syntax, notation, axiom, sorry.
-/
import Derived.Test.YtocphogddjcblaaChecked
import GoSem.Claim
import GoSem.ClaimJoined
import GoSem.ClaimMapViews
import Derived.JoinedTies
import Derived.KernelRfl
namespace Go.Proofs.Ytocphogddjcblaa
/- THE CELL 'sum', in the pinned program and in every row, IS THE sha256 OF THE DUMP (.gsa) THAT YtocphogddjcblaaProg.lean LOADS. Nothing in Lean hashes anything: it is a label: what it is worth is what the hold of that sum in a sandbox is worth. -/
noncomputable def Try.pinned : Pinned := { name := "ytocphogddjcblaa", sum := "99f9b142dc6c4fc32bfaf2089086f223def9dcd4c2fc0bd14a65880ea7aa9fb2", checked := Try.checked }
namespace Rows
def none {H : Type} : Left H := { results := [], args := [] }

/-- 'tandemlaw05.RamTells': WHATEVER THE INPUT: true; the input reads as it did. -/
def ramTellsSpec : ChangeSpec := { name := "ramTells", fn := fun _ => fun
  | [d1, d2, d3] => { results := [.lit (.bool true)], args := [d1, d2, d3] }
  | _ => none }
def ramTellsRow : OpenClaim := { program := "ytocphogddjcblaa", sum := "99f9b142dc6c4fc32bfaf2089086f223def9dcd4c2fc0bd14a65880ea7aa9fb2", func := "tandem/tandemlaw05.RamTells", spec := "ramTells", apart := false }
def RamTellsSaid : Prop := ramTellsRow.holds Try.pinned (OpenSpec.ofChange ramTellsSpec)

/-- ITS FALSE NEIGHBOUR: 'it returns false'. Refute it at one input. -/
def ramTellsWrong : ChangeSpec := { name := "ramTells", fn := fun _ => fun
  | [d1, d2, d3] => { results := [.lit (.bool false)], args := [d1, d2, d3] }
  | _ => none }
def RamTellsWrongFalsely : Prop := ramTellsRow.holds Try.pinned (OpenSpec.ofChange ramTellsWrong)

/-- 'tandemlaw05.RamPuts': WHATEVER THE INPUT: true; the input reads as it did. -/
def ramPutsSpec : ChangeSpec := { name := "ramPuts", fn := fun _ => fun
  | [d1, d2, d3] => { results := [.lit (.bool true)], args := [d1, d2, d3] }
  | _ => none }
def ramPutsRow : OpenClaim := { program := "ytocphogddjcblaa", sum := "99f9b142dc6c4fc32bfaf2089086f223def9dcd4c2fc0bd14a65880ea7aa9fb2", func := "tandem/tandemlaw05.RamPuts", spec := "ramPuts", apart := false }
def RamPutsSaid : Prop := ramPutsRow.holds Try.pinned (OpenSpec.ofChange ramPutsSpec)

/-- ITS FALSE NEIGHBOUR: 'it returns false'. Refute it at one input. -/
def ramPutsWrong : ChangeSpec := { name := "ramPuts", fn := fun _ => fun
  | [d1, d2, d3] => { results := [.lit (.bool false)], args := [d1, d2, d3] }
  | _ => none }
def RamPutsWrongFalsely : Prop := ramPutsRow.holds Try.pinned (OpenSpec.ofChange ramPutsWrong)

/-- 'tandemlaw05.RamStored': WHATEVER THE INPUT: true; the input reads as it did. -/
def ramStoredSpec : ChangeSpec := { name := "ramStored", fn := fun _ => fun
  | [d1, d2] => { results := [.lit (.bool true)], args := [d1, d2] }
  | _ => none }
def ramStoredRow : OpenClaim := { program := "ytocphogddjcblaa", sum := "99f9b142dc6c4fc32bfaf2089086f223def9dcd4c2fc0bd14a65880ea7aa9fb2", func := "tandem/tandemlaw05.RamStored", spec := "ramStored", apart := false }
def RamStoredSaid : Prop := ramStoredRow.holds Try.pinned (OpenSpec.ofChange ramStoredSpec)

/-- ITS FALSE NEIGHBOUR: 'it returns false'. Refute it at one input. -/
def ramStoredWrong : ChangeSpec := { name := "ramStored", fn := fun _ => fun
  | [d1, d2] => { results := [.lit (.bool false)], args := [d1, d2] }
  | _ => none }
def RamStoredWrongFalsely : Prop := ramStoredRow.holds Try.pinned (OpenSpec.ofChange ramStoredWrong)

/-- 'tandemlaw05.RamSince': WHATEVER THE INPUT: true; the input reads as it did. -/
def ramSinceSpec : ChangeSpec := { name := "ramSince", fn := fun _ => fun
  | [d1, d2] => { results := [.lit (.bool true)], args := [d1, d2] }
  | _ => none }
def ramSinceRow : OpenClaim := { program := "ytocphogddjcblaa", sum := "99f9b142dc6c4fc32bfaf2089086f223def9dcd4c2fc0bd14a65880ea7aa9fb2", func := "tandem/tandemlaw05.RamSince", spec := "ramSince", apart := false }
def RamSinceSaid : Prop := ramSinceRow.holds Try.pinned (OpenSpec.ofChange ramSinceSpec)

/-- ITS FALSE NEIGHBOUR: 'it returns false'. Refute it at one input. -/
def ramSinceWrong : ChangeSpec := { name := "ramSince", fn := fun _ => fun
  | [d1, d2] => { results := [.lit (.bool false)], args := [d1, d2] }
  | _ => none }
def RamSinceWrongFalsely : Prop := ramSinceRow.holds Try.pinned (OpenSpec.ofChange ramSinceWrong)

/-- 'tandemlaw05.RamTexts': WHATEVER THE INPUT: true; the input reads as it did. -/
def ramTextsSpec : ChangeSpec := { name := "ramTexts", fn := fun _ => fun
  | [d1, d2, d3, d4] => { results := [.lit (.bool true)], args := [d1, d2, d3, d4] }
  | _ => none }
def ramTextsRow : OpenClaim := { program := "ytocphogddjcblaa", sum := "99f9b142dc6c4fc32bfaf2089086f223def9dcd4c2fc0bd14a65880ea7aa9fb2", func := "tandem/tandemlaw05.RamTexts", spec := "ramTexts", apart := false }
def RamTextsSaid : Prop := ramTextsRow.holds Try.pinned (OpenSpec.ofChange ramTextsSpec)

/-- ITS FALSE NEIGHBOUR: 'it returns false'. Refute it at one input. -/
def ramTextsWrong : ChangeSpec := { name := "ramTexts", fn := fun _ => fun
  | [d1, d2, d3, d4] => { results := [.lit (.bool false)], args := [d1, d2, d3, d4] }
  | _ => none }
def RamTextsWrongFalsely : Prop := ramTextsRow.holds Try.pinned (OpenSpec.ofChange ramTextsWrong)

/- THE SECOND FORM. 'bulk': how many values and letters a reading holds, each counted each time it is reached (what is shared counts as often as it is met; a slice's spare places count too). A statement '..UptoSaid' is the law's where the arguments, and the package variables that the reading takes, are together of bulk at most 1048576: NARROWER than '..Said'. Prove '..Said' where nothing that the law and all that it calls make is longer than what came in: it says more and counts as full. Else prove '..UptoSaid'. A law counts once. -/
mutual
def uptoBulk {H : Type} : DataW H → Nat
  | .lit (.string bytes) => bytes.length + 1
  | .lit _ => 1
  | .nil => 1
  | .ptr d => uptoBulk d + 1
  | .slice elems spare => uptoBulkAll elems + uptoBulkAll spare + 1
  | .agg parts => uptoBulkAll parts + 1
  | .iface _ d => uptoBulk d + 1
  | .map entries => uptoBulkEntries entries + 1
  | .held _ => 1
def uptoBulkAll {H : Type} : List (DataW H) → Nat
  | [] => 0
  | d :: r => uptoBulk d + uptoBulkAll r
def uptoBulkEntries {H : Type} : List (Lit × DataW H) → Nat
  | [] => 0
  | x :: r => uptoBulkEntry x + uptoBulkEntries r
def uptoBulkEntry {H : Type} : Lit × DataW H → Nat
  | (.string bytes, d) => bytes.length + uptoBulk d + 1
  | (_, d) => uptoBulk d + 1
 end
def uptoSmall : (H : Type) → List (DataW H) → Bool := fun _ ds => decide (uptoBulkAll ds ≤ 1048576)
def OpenSpec.upto (s : _root_.Go.ChangeSpec) : _root_.Go.OpenSpec := { _root_.Go.OpenSpec.ofChange s with cond := some uptoSmall }

/-- 'tandemlaw05.RamTells', WHERE WHAT IT READS IS OF BULK AT MOST 1048576: true; the input reads as it did. -/
def ramTellsUptoRow : OpenClaim := { program := "ytocphogddjcblaa", sum := "99f9b142dc6c4fc32bfaf2089086f223def9dcd4c2fc0bd14a65880ea7aa9fb2", func := "tandem/tandemlaw05.RamTells", spec := "ramTells", apart := false, narrowed := true }
def RamTellsUptoSaid : Prop := ramTellsUptoRow.holds Try.pinned (OpenSpec.upto ramTellsSpec)

/-- 'tandemlaw05.RamPuts', WHERE WHAT IT READS IS OF BULK AT MOST 1048576: true; the input reads as it did. -/
def ramPutsUptoRow : OpenClaim := { program := "ytocphogddjcblaa", sum := "99f9b142dc6c4fc32bfaf2089086f223def9dcd4c2fc0bd14a65880ea7aa9fb2", func := "tandem/tandemlaw05.RamPuts", spec := "ramPuts", apart := false, narrowed := true }
def RamPutsUptoSaid : Prop := ramPutsUptoRow.holds Try.pinned (OpenSpec.upto ramPutsSpec)

/-- 'tandemlaw05.RamStored', WHERE WHAT IT READS IS OF BULK AT MOST 1048576: true; the input reads as it did. -/
def ramStoredUptoRow : OpenClaim := { program := "ytocphogddjcblaa", sum := "99f9b142dc6c4fc32bfaf2089086f223def9dcd4c2fc0bd14a65880ea7aa9fb2", func := "tandem/tandemlaw05.RamStored", spec := "ramStored", apart := false, narrowed := true }
def RamStoredUptoSaid : Prop := ramStoredUptoRow.holds Try.pinned (OpenSpec.upto ramStoredSpec)

/-- 'tandemlaw05.RamSince', WHERE WHAT IT READS IS OF BULK AT MOST 1048576: true; the input reads as it did. -/
def ramSinceUptoRow : OpenClaim := { program := "ytocphogddjcblaa", sum := "99f9b142dc6c4fc32bfaf2089086f223def9dcd4c2fc0bd14a65880ea7aa9fb2", func := "tandem/tandemlaw05.RamSince", spec := "ramSince", apart := false, narrowed := true }
def RamSinceUptoSaid : Prop := ramSinceUptoRow.holds Try.pinned (OpenSpec.upto ramSinceSpec)

/-- 'tandemlaw05.RamTexts', WHERE WHAT IT READS IS OF BULK AT MOST 1048576: true; the input reads as it did. -/
def ramTextsUptoRow : OpenClaim := { program := "ytocphogddjcblaa", sum := "99f9b142dc6c4fc32bfaf2089086f223def9dcd4c2fc0bd14a65880ea7aa9fb2", func := "tandem/tandemlaw05.RamTexts", spec := "ramTexts", apart := false, narrowed := true }
def RamTextsUptoSaid : Prop := ramTextsUptoRow.holds Try.pinned (OpenSpec.upto ramTextsSpec)

end Rows
end Go.Proofs.Ytocphogddjcblaa
