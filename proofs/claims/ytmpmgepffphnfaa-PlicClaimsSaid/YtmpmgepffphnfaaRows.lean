/-
  No cell of these rows narrows 'for every input' (looked for: loops, veiled, ifaces, maps, wideKeys, modest, calm, conditions, laid).
  DERIVED. THE GIVEN ROWS OF THIS SEAT. 4 by the template 'for every input the law returns true; each argument reads behind the call as it read before'; 0 by the template 'total and deterministic' (their statements: YtmpmgepffphnfaaTotals.lean).
  GIVEN WITH THE SEED: the statements are not yours to turn. If you find one false, say at which input.
  Laid BY PROGRAM, IN A SANDBOX (cutbox-rows.mjs): the forced cells as the released guide's own fill.sh prints them over the translation 0c43ed6923f9bbf8… (all of the seat's roots in one cut). By AI agents, Wed Nov 11 2026. No macro, syntax, notation, axiom, sorry.
-/
import Derived.Test.YtmpmgepffphnfaaChecked
import GoSem.Claim
import GoSem.ClaimJoined
import GoSem.ClaimMapViews
import Derived.JoinedTies
import Derived.KernelRfl
namespace Go.Proofs.Ytmpmgepffphnfaa
/- THE CELL 'sum', in the pinned program and in every row, IS THE sha256 OF THE DUMP (.gsa) THAT YtmpmgepffphnfaaProg.lean LOADS. Nothing in Lean hashes anything: it is a label: what it is worth is what the hold of that sum in a sandbox is worth. -/
noncomputable def Try.pinned : Pinned := { name := "ytmpmgepffphnfaa", sum := "0c43ed6923f9bbf88a41d2b63bba6caaf50f399822a7f02ee6b5f2a4740f0582", checked := Try.checked }
namespace Rows
def none {H : Type} : Left H := { results := [], args := [] }

/-- 'tandemlaw13.PlicTells': WHATEVER THE INPUT: true; the input reads as it did. -/
def plicTellsSpec : ChangeSpec := { name := "plicTells", fn := fun _ => fun
  | [d1, d2, d3, d4, d5, d6] => { results := [.lit (.bool true)], args := [d1, d2, d3, d4, d5, d6] }
  | _ => none }
def plicTellsRow : OpenClaim := { program := "ytmpmgepffphnfaa", sum := "0c43ed6923f9bbf88a41d2b63bba6caaf50f399822a7f02ee6b5f2a4740f0582", func := "tandem/tandemlaw13.PlicTells", spec := "plicTells", apart := false }
def PlicTellsSaid : Prop := plicTellsRow.holds Try.pinned (OpenSpec.ofChange plicTellsSpec)

/-- ITS FALSE NEIGHBOUR: 'it returns false'. Refute it at one input. -/
def plicTellsWrong : ChangeSpec := { name := "plicTells", fn := fun _ => fun
  | [d1, d2, d3, d4, d5, d6] => { results := [.lit (.bool false)], args := [d1, d2, d3, d4, d5, d6] }
  | _ => none }
def PlicTellsWrongFalsely : Prop := plicTellsRow.holds Try.pinned (OpenSpec.ofChange plicTellsWrong)

/-- 'tandemlaw13.PlicClaims': WHATEVER THE INPUT: true; the input reads as it did. -/
def plicClaimsSpec : ChangeSpec := { name := "plicClaims", fn := fun _ => fun
  | [d1, d2, d3] => { results := [.lit (.bool true)], args := [d1, d2, d3] }
  | _ => none }
def plicClaimsRow : OpenClaim := { program := "ytmpmgepffphnfaa", sum := "0c43ed6923f9bbf88a41d2b63bba6caaf50f399822a7f02ee6b5f2a4740f0582", func := "tandem/tandemlaw13.PlicClaims", spec := "plicClaims", apart := false }
def PlicClaimsSaid : Prop := plicClaimsRow.holds Try.pinned (OpenSpec.ofChange plicClaimsSpec)

/-- ITS FALSE NEIGHBOUR: 'it returns false'. Refute it at one input. -/
def plicClaimsWrong : ChangeSpec := { name := "plicClaims", fn := fun _ => fun
  | [d1, d2, d3] => { results := [.lit (.bool false)], args := [d1, d2, d3] }
  | _ => none }
def PlicClaimsWrongFalsely : Prop := plicClaimsRow.holds Try.pinned (OpenSpec.ofChange plicClaimsWrong)

/-- 'tandemlaw13.PlicRight': WHATEVER THE INPUT: true; the input reads as it did. -/
def plicRightSpec : ChangeSpec := { name := "plicRight", fn := fun _ => fun
  | [d1, d2, d3, d4] => { results := [.lit (.bool true)], args := [d1, d2, d3, d4] }
  | _ => none }
def plicRightRow : OpenClaim := { program := "ytmpmgepffphnfaa", sum := "0c43ed6923f9bbf88a41d2b63bba6caaf50f399822a7f02ee6b5f2a4740f0582", func := "tandem/tandemlaw13.PlicRight", spec := "plicRight", apart := false }
def PlicRightSaid : Prop := plicRightRow.holds Try.pinned (OpenSpec.ofChange plicRightSpec)

/-- ITS FALSE NEIGHBOUR: 'it returns false'. Refute it at one input. -/
def plicRightWrong : ChangeSpec := { name := "plicRight", fn := fun _ => fun
  | [d1, d2, d3, d4] => { results := [.lit (.bool false)], args := [d1, d2, d3, d4] }
  | _ => none }
def PlicRightWrongFalsely : Prop := plicRightRow.holds Try.pinned (OpenSpec.ofChange plicRightWrong)

/-- 'tandemlaw13.PlicFirst': WHATEVER THE INPUT: true; the input reads as it did. -/
def plicFirstSpec : ChangeSpec := { name := "plicFirst", fn := fun _ => fun
  | [d1, d2, d3] => { results := [.lit (.bool true)], args := [d1, d2, d3] }
  | _ => none }
def plicFirstRow : OpenClaim := { program := "ytmpmgepffphnfaa", sum := "0c43ed6923f9bbf88a41d2b63bba6caaf50f399822a7f02ee6b5f2a4740f0582", func := "tandem/tandemlaw13.PlicFirst", spec := "plicFirst", apart := false }
def PlicFirstSaid : Prop := plicFirstRow.holds Try.pinned (OpenSpec.ofChange plicFirstSpec)

/-- ITS FALSE NEIGHBOUR: 'it returns false'. Refute it at one input. -/
def plicFirstWrong : ChangeSpec := { name := "plicFirst", fn := fun _ => fun
  | [d1, d2, d3] => { results := [.lit (.bool false)], args := [d1, d2, d3] }
  | _ => none }
def PlicFirstWrongFalsely : Prop := plicFirstRow.holds Try.pinned (OpenSpec.ofChange plicFirstWrong)

/- THE SECOND FORM. 'bulk': how many values and letters a reading holds, each counted each time it is reached (what is shared counts as often as it is met; a slice's spare places count too). A statement '..UptoSaid' is the law's where the arguments, and the package variables that the reading takes, are together of bulk at most 1048576: NARROWER than '..Said'. Prove '..Said' where nothing that the law and all that it calls make is longer than what came in: it says more and counts as full. Else prove '..UptoSaid'. A law counts once. -/
mutual
def uptoBulk {H : Type} : DataW H → Nat
  | .lit (.string bytes) => bytes.length + 1
  | .lit _ => 1
  | .nil => 1
  | .ptr d => uptoBulk d + 1
  | .slice elems spare => uptoBulkAll elems + uptoBulkAll spare + 1
  | .agg parts => uptoBulkAll parts + 1
  | .iface _ d => uptoBulk d + 1
  | .map entries => uptoBulkEntries entries + 1
  | .held _ => 1
def uptoBulkAll {H : Type} : List (DataW H) → Nat
  | [] => 0
  | d :: r => uptoBulk d + uptoBulkAll r
def uptoBulkEntries {H : Type} : List (Lit × DataW H) → Nat
  | [] => 0
  | x :: r => uptoBulkEntry x + uptoBulkEntries r
def uptoBulkEntry {H : Type} : Lit × DataW H → Nat
  | (.string bytes, d) => bytes.length + uptoBulk d + 1
  | (_, d) => uptoBulk d + 1
 end
def uptoSmall : (H : Type) → List (DataW H) → Bool := fun _ ds => decide (uptoBulkAll ds ≤ 1048576)
def OpenSpec.upto (s : _root_.Go.ChangeSpec) : _root_.Go.OpenSpec := { _root_.Go.OpenSpec.ofChange s with cond := some uptoSmall }

/-- 'tandemlaw13.PlicTells', WHERE WHAT IT READS IS OF BULK AT MOST 1048576: true; the input reads as it did. -/
def plicTellsUptoRow : OpenClaim := { program := "ytmpmgepffphnfaa", sum := "0c43ed6923f9bbf88a41d2b63bba6caaf50f399822a7f02ee6b5f2a4740f0582", func := "tandem/tandemlaw13.PlicTells", spec := "plicTells", apart := false, narrowed := true }
def PlicTellsUptoSaid : Prop := plicTellsUptoRow.holds Try.pinned (OpenSpec.upto plicTellsSpec)

/-- 'tandemlaw13.PlicClaims', WHERE WHAT IT READS IS OF BULK AT MOST 1048576: true; the input reads as it did. -/
def plicClaimsUptoRow : OpenClaim := { program := "ytmpmgepffphnfaa", sum := "0c43ed6923f9bbf88a41d2b63bba6caaf50f399822a7f02ee6b5f2a4740f0582", func := "tandem/tandemlaw13.PlicClaims", spec := "plicClaims", apart := false, narrowed := true }
def PlicClaimsUptoSaid : Prop := plicClaimsUptoRow.holds Try.pinned (OpenSpec.upto plicClaimsSpec)

/-- 'tandemlaw13.PlicRight', WHERE WHAT IT READS IS OF BULK AT MOST 1048576: true; the input reads as it did. -/
def plicRightUptoRow : OpenClaim := { program := "ytmpmgepffphnfaa", sum := "0c43ed6923f9bbf88a41d2b63bba6caaf50f399822a7f02ee6b5f2a4740f0582", func := "tandem/tandemlaw13.PlicRight", spec := "plicRight", apart := false, narrowed := true }
def PlicRightUptoSaid : Prop := plicRightUptoRow.holds Try.pinned (OpenSpec.upto plicRightSpec)

/-- 'tandemlaw13.PlicFirst', WHERE WHAT IT READS IS OF BULK AT MOST 1048576: true; the input reads as it did. -/
def plicFirstUptoRow : OpenClaim := { program := "ytmpmgepffphnfaa", sum := "0c43ed6923f9bbf88a41d2b63bba6caaf50f399822a7f02ee6b5f2a4740f0582", func := "tandem/tandemlaw13.PlicFirst", spec := "plicFirst", apart := false, narrowed := true }
def PlicFirstUptoSaid : Prop := plicFirstUptoRow.holds Try.pinned (OpenSpec.upto plicFirstSpec)

end Rows
end Go.Proofs.Ytmpmgepffphnfaa
