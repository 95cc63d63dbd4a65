/-
  No cell of these rows narrows 'for every input' (looked for: loops, veiled, ifaces, maps, wideKeys, modest, calm, conditions, laid).
  DERIVED. THE GIVEN ROWS OF THIS SEAT. 5 by the template 'for every input the law returns true; each argument reads behind the call as it read before'; 0 by the template 'total and deterministic' (their statements: YthchakfffenoiaaTotals.lean).
  GIVEN WITH THE SEED: the statements are not yours to turn. If you find one false, say at which input.
  Laid BY PROGRAM, IN A SANDBOX (cutbox-rows.mjs): the forced cells as the released guide's own fill.sh prints them over the translation f66a6fa561b3f3bf… (all of the seat's roots in one cut). By AI agents, Wed Nov 11 2026. No macro, syntax, notation, axiom, sorry.
-/
import Derived.Test.YthchakfffenoiaaChecked
import GoSem.Claim
import GoSem.ClaimJoined
import GoSem.ClaimMapViews
import Derived.JoinedTies
import Derived.KernelRfl
namespace Go.Proofs.Ythchakfffenoiaa
/- THE CELL 'sum', in the pinned program and in every row, IS THE sha256 OF THE DUMP (.gsa) THAT YthchakfffenoiaaProg.lean LOADS. Nothing in Lean hashes anything: it is a label: what it is worth is what the hold of that sum in a sandbox is worth. -/
noncomputable def Try.pinned : Pinned := { name := "ythchakfffenoiaa", sum := "f66a6fa561b3f3bf5ce80589ac758546d50ebbec230da112d031e97122d0d454", checked := Try.checked }
namespace Rows
def none {H : Type} : Left H := { results := [], args := [] }

/-- 'tandemlaw09.CsrTells': WHATEVER THE INPUT: true; the input reads as it did. -/
def csrTellsSpec : ChangeSpec := { name := "csrTells", fn := fun _ => fun
  | [d1, d2, d3, d4, d5, d6] => { results := [.lit (.bool true)], args := [d1, d2, d3, d4, d5, d6] }
  | _ => none }
def csrTellsRow : OpenClaim := { program := "ythchakfffenoiaa", sum := "f66a6fa561b3f3bf5ce80589ac758546d50ebbec230da112d031e97122d0d454", func := "tandem/tandemlaw09.CsrTells", spec := "csrTells", apart := false }
def CsrTellsSaid : Prop := csrTellsRow.holds Try.pinned (OpenSpec.ofChange csrTellsSpec)

/-- ITS FALSE NEIGHBOUR: 'it returns false'. Refute it at one input. -/
def csrTellsWrong : ChangeSpec := { name := "csrTells", fn := fun _ => fun
  | [d1, d2, d3, d4, d5, d6] => { results := [.lit (.bool false)], args := [d1, d2, d3, d4, d5, d6] }
  | _ => none }
def CsrTellsWrongFalsely : Prop := csrTellsRow.holds Try.pinned (OpenSpec.ofChange csrTellsWrong)

/-- 'tandemlaw09.CsrRight': WHATEVER THE INPUT: true; the input reads as it did. -/
def csrRightSpec : ChangeSpec := { name := "csrRight", fn := fun _ => fun
  | [d1, d2, d3, d4] => { results := [.lit (.bool true)], args := [d1, d2, d3, d4] }
  | _ => none }
def csrRightRow : OpenClaim := { program := "ythchakfffenoiaa", sum := "f66a6fa561b3f3bf5ce80589ac758546d50ebbec230da112d031e97122d0d454", func := "tandem/tandemlaw09.CsrRight", spec := "csrRight", apart := false }
def CsrRightSaid : Prop := csrRightRow.holds Try.pinned (OpenSpec.ofChange csrRightSpec)

/-- ITS FALSE NEIGHBOUR: 'it returns false'. Refute it at one input. -/
def csrRightWrong : ChangeSpec := { name := "csrRight", fn := fun _ => fun
  | [d1, d2, d3, d4] => { results := [.lit (.bool false)], args := [d1, d2, d3, d4] }
  | _ => none }
def CsrRightWrongFalsely : Prop := csrRightRow.holds Try.pinned (OpenSpec.ofChange csrRightWrong)

/-- 'tandemlaw09.CsrOnce': WHATEVER THE INPUT: true; the input reads as it did. -/
def csrOnceSpec : ChangeSpec := { name := "csrOnce", fn := fun _ => fun
  | [d1, d2, d3, d4] => { results := [.lit (.bool true)], args := [d1, d2, d3, d4] }
  | _ => none }
def csrOnceRow : OpenClaim := { program := "ythchakfffenoiaa", sum := "f66a6fa561b3f3bf5ce80589ac758546d50ebbec230da112d031e97122d0d454", func := "tandem/tandemlaw09.CsrOnce", spec := "csrOnce", apart := false }
def CsrOnceSaid : Prop := csrOnceRow.holds Try.pinned (OpenSpec.ofChange csrOnceSpec)

/-- ITS FALSE NEIGHBOUR: 'it returns false'. Refute it at one input. -/
def csrOnceWrong : ChangeSpec := { name := "csrOnce", fn := fun _ => fun
  | [d1, d2, d3, d4] => { results := [.lit (.bool false)], args := [d1, d2, d3, d4] }
  | _ => none }
def CsrOnceWrongFalsely : Prop := csrOnceRow.holds Try.pinned (OpenSpec.ofChange csrOnceWrong)

/-- 'tandemlaw09.CsrParts': WHATEVER THE INPUT: true; the input reads as it did. -/
def csrPartsSpec : ChangeSpec := { name := "csrParts", fn := fun _ => fun
  | [d1, d2] => { results := [.lit (.bool true)], args := [d1, d2] }
  | _ => none }
def csrPartsRow : OpenClaim := { program := "ythchakfffenoiaa", sum := "f66a6fa561b3f3bf5ce80589ac758546d50ebbec230da112d031e97122d0d454", func := "tandem/tandemlaw09.CsrParts", spec := "csrParts", apart := false }
def CsrPartsSaid : Prop := csrPartsRow.holds Try.pinned (OpenSpec.ofChange csrPartsSpec)

/-- ITS FALSE NEIGHBOUR: 'it returns false'. Refute it at one input. -/
def csrPartsWrong : ChangeSpec := { name := "csrParts", fn := fun _ => fun
  | [d1, d2] => { results := [.lit (.bool false)], args := [d1, d2] }
  | _ => none }
def CsrPartsWrongFalsely : Prop := csrPartsRow.holds Try.pinned (OpenSpec.ofChange csrPartsWrong)

/-- 'tandemlaw09.CsrModes': WHATEVER THE INPUT: true; the input reads as it did. -/
def csrModesSpec : ChangeSpec := { name := "csrModes", fn := fun _ => fun
  | [d1, d2, d3, d4] => { results := [.lit (.bool true)], args := [d1, d2, d3, d4] }
  | _ => none }
def csrModesRow : OpenClaim := { program := "ythchakfffenoiaa", sum := "f66a6fa561b3f3bf5ce80589ac758546d50ebbec230da112d031e97122d0d454", func := "tandem/tandemlaw09.CsrModes", spec := "csrModes", apart := false }
def CsrModesSaid : Prop := csrModesRow.holds Try.pinned (OpenSpec.ofChange csrModesSpec)

/-- ITS FALSE NEIGHBOUR: 'it returns false'. Refute it at one input. -/
def csrModesWrong : ChangeSpec := { name := "csrModes", fn := fun _ => fun
  | [d1, d2, d3, d4] => { results := [.lit (.bool false)], args := [d1, d2, d3, d4] }
  | _ => none }
def CsrModesWrongFalsely : Prop := csrModesRow.holds Try.pinned (OpenSpec.ofChange csrModesWrong)

/- THE SECOND FORM. 'bulk': how many values and letters a reading holds, each counted each time it is reached (what is shared counts as often as it is met; a slice's spare places count too). A statement '..UptoSaid' is the law's where the arguments, and the package variables that the reading takes, are together of bulk at most 1048576: NARROWER than '..Said'. Prove '..Said' where nothing that the law and all that it calls make is longer than what came in: it says more and counts as full. Else prove '..UptoSaid'. A law counts once. -/
mutual
def uptoBulk {H : Type} : DataW H → Nat
  | .lit (.string bytes) => bytes.length + 1
  | .lit _ => 1
  | .nil => 1
  | .ptr d => uptoBulk d + 1
  | .slice elems spare => uptoBulkAll elems + uptoBulkAll spare + 1
  | .agg parts => uptoBulkAll parts + 1
  | .iface _ d => uptoBulk d + 1
  | .map entries => uptoBulkEntries entries + 1
  | .held _ => 1
def uptoBulkAll {H : Type} : List (DataW H) → Nat
  | [] => 0
  | d :: r => uptoBulk d + uptoBulkAll r
def uptoBulkEntries {H : Type} : List (Lit × DataW H) → Nat
  | [] => 0
  | x :: r => uptoBulkEntry x + uptoBulkEntries r
def uptoBulkEntry {H : Type} : Lit × DataW H → Nat
  | (.string bytes, d) => bytes.length + uptoBulk d + 1
  | (_, d) => uptoBulk d + 1
 end
def uptoSmall : (H : Type) → List (DataW H) → Bool := fun _ ds => decide (uptoBulkAll ds ≤ 1048576)
def OpenSpec.upto (s : _root_.Go.ChangeSpec) : _root_.Go.OpenSpec := { _root_.Go.OpenSpec.ofChange s with cond := some uptoSmall }

/-- 'tandemlaw09.CsrTells', WHERE WHAT IT READS IS OF BULK AT MOST 1048576: true; the input reads as it did. -/
def csrTellsUptoRow : OpenClaim := { program := "ythchakfffenoiaa", sum := "f66a6fa561b3f3bf5ce80589ac758546d50ebbec230da112d031e97122d0d454", func := "tandem/tandemlaw09.CsrTells", spec := "csrTells", apart := false, narrowed := true }
def CsrTellsUptoSaid : Prop := csrTellsUptoRow.holds Try.pinned (OpenSpec.upto csrTellsSpec)

/-- 'tandemlaw09.CsrRight', WHERE WHAT IT READS IS OF BULK AT MOST 1048576: true; the input reads as it did. -/
def csrRightUptoRow : OpenClaim := { program := "ythchakfffenoiaa", sum := "f66a6fa561b3f3bf5ce80589ac758546d50ebbec230da112d031e97122d0d454", func := "tandem/tandemlaw09.CsrRight", spec := "csrRight", apart := false, narrowed := true }
def CsrRightUptoSaid : Prop := csrRightUptoRow.holds Try.pinned (OpenSpec.upto csrRightSpec)

/-- 'tandemlaw09.CsrOnce', WHERE WHAT IT READS IS OF BULK AT MOST 1048576: true; the input reads as it did. -/
def csrOnceUptoRow : OpenClaim := { program := "ythchakfffenoiaa", sum := "f66a6fa561b3f3bf5ce80589ac758546d50ebbec230da112d031e97122d0d454", func := "tandem/tandemlaw09.CsrOnce", spec := "csrOnce", apart := false, narrowed := true }
def CsrOnceUptoSaid : Prop := csrOnceUptoRow.holds Try.pinned (OpenSpec.upto csrOnceSpec)

/-- 'tandemlaw09.CsrParts', WHERE WHAT IT READS IS OF BULK AT MOST 1048576: true; the input reads as it did. -/
def csrPartsUptoRow : OpenClaim := { program := "ythchakfffenoiaa", sum := "f66a6fa561b3f3bf5ce80589ac758546d50ebbec230da112d031e97122d0d454", func := "tandem/tandemlaw09.CsrParts", spec := "csrParts", apart := false, narrowed := true }
def CsrPartsUptoSaid : Prop := csrPartsUptoRow.holds Try.pinned (OpenSpec.upto csrPartsSpec)

/-- 'tandemlaw09.CsrModes', WHERE WHAT IT READS IS OF BULK AT MOST 1048576: true; the input reads as it did. -/
def csrModesUptoRow : OpenClaim := { program := "ythchakfffenoiaa", sum := "f66a6fa561b3f3bf5ce80589ac758546d50ebbec230da112d031e97122d0d454", func := "tandem/tandemlaw09.CsrModes", spec := "csrModes", apart := false, narrowed := true }
def CsrModesUptoSaid : Prop := csrModesUptoRow.holds Try.pinned (OpenSpec.upto csrModesSpec)

end Rows
end Go.Proofs.Ythchakfffenoiaa
