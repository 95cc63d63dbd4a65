/-
  No cell of these rows narrows 'for every input' (looked for: loops, veiled, ifaces, maps, wideKeys, modest, calm, conditions, laid).
  DERIVED. THE GIVEN ROWS OF THIS SEAT. 4 by the template 'for every input the law returns true; each argument reads behind the call as it read before'; 0 by the template 'total and deterministic' (their statements: YtbdoiomnoajnpaaTotals.lean).
  GIVEN WITH THE SEED: the statements are not yours to turn. If you find one false, say at which input.
  Laid BY PROGRAM, IN A SANDBOX (cutbox-rows.mjs): the forced cells as the released guide's own fill.sh prints them over the translation d95eb44f266ae8d9… (all of the seat's roots in one cut). By AI agents, Wed Nov 11 2026. No macro, syntax, notation, axiom, sorry.
-/
import Derived.Test.YtbdoiomnoajnpaaChecked
import GoSem.Claim
import GoSem.ClaimJoined
import GoSem.ClaimMapViews
import Derived.JoinedTies
import Derived.KernelRfl
namespace Go.Proofs.Ytbdoiomnoajnpaa
/- THE CELL 'sum', in the pinned program and in every row, IS THE sha256 OF THE DUMP (.gsa) THAT YtbdoiomnoajnpaaProg.lean LOADS. Nothing in Lean hashes anything: it is a label: what it is worth is what the hold of that sum in a sandbox is worth. -/
noncomputable def Try.pinned : Pinned := { name := "ytbdoiomnoajnpaa", sum := "d95eb44f266ae8d99fb996a5a8494f701f49c84a9ecd769516435f2a1e06a52e", checked := Try.checked }
namespace Rows
def none {H : Type} : Left H := { results := [], args := [] }

/-- 'tandemlaw10.TrapTells': WHATEVER THE INPUT: true; the input reads as it did. -/
def trapTellsSpec : ChangeSpec := { name := "trapTells", fn := fun _ => fun
  | [d1, d2, d3, d4, d5] => { results := [.lit (.bool true)], args := [d1, d2, d3, d4, d5] }
  | _ => none }
def trapTellsRow : OpenClaim := { program := "ytbdoiomnoajnpaa", sum := "d95eb44f266ae8d99fb996a5a8494f701f49c84a9ecd769516435f2a1e06a52e", func := "tandem/tandemlaw10.TrapTells", spec := "trapTells", apart := false }
def TrapTellsSaid : Prop := trapTellsRow.holds Try.pinned (OpenSpec.ofChange trapTellsSpec)

/-- ITS FALSE NEIGHBOUR: 'it returns false'. Refute it at one input. -/
def trapTellsWrong : ChangeSpec := { name := "trapTells", fn := fun _ => fun
  | [d1, d2, d3, d4, d5] => { results := [.lit (.bool false)], args := [d1, d2, d3, d4, d5] }
  | _ => none }
def TrapTellsWrongFalsely : Prop := trapTellsRow.holds Try.pinned (OpenSpec.ofChange trapTellsWrong)

/-- 'tandemlaw10.TrapBack': WHATEVER THE INPUT: true; the input reads as it did. -/
def trapBackSpec : ChangeSpec := { name := "trapBack", fn := fun _ => fun
  | [d1, d2, d3, d4] => { results := [.lit (.bool true)], args := [d1, d2, d3, d4] }
  | _ => none }
def trapBackRow : OpenClaim := { program := "ytbdoiomnoajnpaa", sum := "d95eb44f266ae8d99fb996a5a8494f701f49c84a9ecd769516435f2a1e06a52e", func := "tandem/tandemlaw10.TrapBack", spec := "trapBack", apart := false }
def TrapBackSaid : Prop := trapBackRow.holds Try.pinned (OpenSpec.ofChange trapBackSpec)

/-- ITS FALSE NEIGHBOUR: 'it returns false'. Refute it at one input. -/
def trapBackWrong : ChangeSpec := { name := "trapBack", fn := fun _ => fun
  | [d1, d2, d3, d4] => { results := [.lit (.bool false)], args := [d1, d2, d3, d4] }
  | _ => none }
def TrapBackWrongFalsely : Prop := trapBackRow.holds Try.pinned (OpenSpec.ofChange trapBackWrong)

/-- 'tandemlaw10.TrapDown': WHATEVER THE INPUT: true; the input reads as it did. -/
def trapDownSpec : ChangeSpec := { name := "trapDown", fn := fun _ => fun
  | [d1, d2, d3, d4] => { results := [.lit (.bool true)], args := [d1, d2, d3, d4] }
  | _ => none }
def trapDownRow : OpenClaim := { program := "ytbdoiomnoajnpaa", sum := "d95eb44f266ae8d99fb996a5a8494f701f49c84a9ecd769516435f2a1e06a52e", func := "tandem/tandemlaw10.TrapDown", spec := "trapDown", apart := false }
def TrapDownSaid : Prop := trapDownRow.holds Try.pinned (OpenSpec.ofChange trapDownSpec)

/-- ITS FALSE NEIGHBOUR: 'it returns false'. Refute it at one input. -/
def trapDownWrong : ChangeSpec := { name := "trapDown", fn := fun _ => fun
  | [d1, d2, d3, d4] => { results := [.lit (.bool false)], args := [d1, d2, d3, d4] }
  | _ => none }
def TrapDownWrongFalsely : Prop := trapDownRow.holds Try.pinned (OpenSpec.ofChange trapDownWrong)

/-- 'tandemlaw10.TrapOn': WHATEVER THE INPUT: true; the input reads as it did. -/
def trapOnSpec : ChangeSpec := { name := "trapOn", fn := fun _ => fun
  | [d1, d2] => { results := [.lit (.bool true)], args := [d1, d2] }
  | _ => none }
def trapOnRow : OpenClaim := { program := "ytbdoiomnoajnpaa", sum := "d95eb44f266ae8d99fb996a5a8494f701f49c84a9ecd769516435f2a1e06a52e", func := "tandem/tandemlaw10.TrapOn", spec := "trapOn", apart := false }
def TrapOnSaid : Prop := trapOnRow.holds Try.pinned (OpenSpec.ofChange trapOnSpec)

/-- ITS FALSE NEIGHBOUR: 'it returns false'. Refute it at one input. -/
def trapOnWrong : ChangeSpec := { name := "trapOn", fn := fun _ => fun
  | [d1, d2] => { results := [.lit (.bool false)], args := [d1, d2] }
  | _ => none }
def TrapOnWrongFalsely : Prop := trapOnRow.holds Try.pinned (OpenSpec.ofChange trapOnWrong)

/- THE SECOND FORM. 'bulk': how many values and letters a reading holds, each counted each time it is reached (what is shared counts as often as it is met; a slice's spare places count too). A statement '..UptoSaid' is the law's where the arguments, and the package variables that the reading takes, are together of bulk at most 1048576: NARROWER than '..Said'. Prove '..Said' where nothing that the law and all that it calls make is longer than what came in: it says more and counts as full. Else prove '..UptoSaid'. A law counts once. -/
mutual
def uptoBulk {H : Type} : DataW H → Nat
  | .lit (.string bytes) => bytes.length + 1
  | .lit _ => 1
  | .nil => 1
  | .ptr d => uptoBulk d + 1
  | .slice elems spare => uptoBulkAll elems + uptoBulkAll spare + 1
  | .agg parts => uptoBulkAll parts + 1
  | .iface _ d => uptoBulk d + 1
  | .map entries => uptoBulkEntries entries + 1
  | .held _ => 1
def uptoBulkAll {H : Type} : List (DataW H) → Nat
  | [] => 0
  | d :: r => uptoBulk d + uptoBulkAll r
def uptoBulkEntries {H : Type} : List (Lit × DataW H) → Nat
  | [] => 0
  | x :: r => uptoBulkEntry x + uptoBulkEntries r
def uptoBulkEntry {H : Type} : Lit × DataW H → Nat
  | (.string bytes, d) => bytes.length + uptoBulk d + 1
  | (_, d) => uptoBulk d + 1
 end
def uptoSmall : (H : Type) → List (DataW H) → Bool := fun _ ds => decide (uptoBulkAll ds ≤ 1048576)
def OpenSpec.upto (s : _root_.Go.ChangeSpec) : _root_.Go.OpenSpec := { _root_.Go.OpenSpec.ofChange s with cond := some uptoSmall }

/-- 'tandemlaw10.TrapTells', WHERE WHAT IT READS IS OF BULK AT MOST 1048576: true; the input reads as it did. -/
def trapTellsUptoRow : OpenClaim := { program := "ytbdoiomnoajnpaa", sum := "d95eb44f266ae8d99fb996a5a8494f701f49c84a9ecd769516435f2a1e06a52e", func := "tandem/tandemlaw10.TrapTells", spec := "trapTells", apart := false, narrowed := true }
def TrapTellsUptoSaid : Prop := trapTellsUptoRow.holds Try.pinned (OpenSpec.upto trapTellsSpec)

/-- 'tandemlaw10.TrapBack', WHERE WHAT IT READS IS OF BULK AT MOST 1048576: true; the input reads as it did. -/
def trapBackUptoRow : OpenClaim := { program := "ytbdoiomnoajnpaa", sum := "d95eb44f266ae8d99fb996a5a8494f701f49c84a9ecd769516435f2a1e06a52e", func := "tandem/tandemlaw10.TrapBack", spec := "trapBack", apart := false, narrowed := true }
def TrapBackUptoSaid : Prop := trapBackUptoRow.holds Try.pinned (OpenSpec.upto trapBackSpec)

/-- 'tandemlaw10.TrapDown', WHERE WHAT IT READS IS OF BULK AT MOST 1048576: true; the input reads as it did. -/
def trapDownUptoRow : OpenClaim := { program := "ytbdoiomnoajnpaa", sum := "d95eb44f266ae8d99fb996a5a8494f701f49c84a9ecd769516435f2a1e06a52e", func := "tandem/tandemlaw10.TrapDown", spec := "trapDown", apart := false, narrowed := true }
def TrapDownUptoSaid : Prop := trapDownUptoRow.holds Try.pinned (OpenSpec.upto trapDownSpec)

/-- 'tandemlaw10.TrapOn', WHERE WHAT IT READS IS OF BULK AT MOST 1048576: true; the input reads as it did. -/
def trapOnUptoRow : OpenClaim := { program := "ytbdoiomnoajnpaa", sum := "d95eb44f266ae8d99fb996a5a8494f701f49c84a9ecd769516435f2a1e06a52e", func := "tandem/tandemlaw10.TrapOn", spec := "trapOn", apart := false, narrowed := true }
def TrapOnUptoSaid : Prop := trapOnUptoRow.holds Try.pinned (OpenSpec.upto trapOnSpec)

end Rows
end Go.Proofs.Ytbdoiomnoajnpaa
