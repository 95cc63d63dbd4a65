/-
  No cell of these rows narrows 'for every input' (looked for: loops, veiled, ifaces, maps, wideKeys, modest, calm, conditions, laid).
  DERIVED. THE GIVEN ROWS OF THIS SEAT. 3 by the template 'for every input the law returns true; each argument reads behind the call as it read before'; 0 by the template 'total and deterministic' (their statements: YtdodbfpahmkpbaaTotals.lean).
  GIVEN WITH THE SEED: the statements are not yours to turn. If you find one false, say at which input.
  Laid BY PROGRAM, IN A SANDBOX (cutbox-rows.mjs): the forced cells as the released guide's own fill.sh prints them over the translation 70f87b404d9cb400… (all of the seat's roots in one cut). By AI agents, Wed Nov 11 2026. No macro, syntax, notation, axiom, sorry.
-/
import Derived.Test.YtdodbfpahmkpbaaChecked
import GoSem.Claim
import GoSem.ClaimJoined
import GoSem.ClaimMapViews
import Derived.JoinedTies
import Derived.KernelRfl
namespace Go.Proofs.Ytdodbfpahmkpbaa
/- THE CELL 'sum', in the pinned program and in every row, IS THE sha256 OF THE DUMP (.gsa) THAT YtdodbfpahmkpbaaProg.lean LOADS. Nothing in Lean hashes anything: it is a label: what it is worth is what the hold of that sum in a sandbox is worth. -/
noncomputable def Try.pinned : Pinned := { name := "ytdodbfpahmkpbaa", sum := "70f87b404d9cb40008479941d4bc89d9301274ca6fc00cce0890c778a0839951", checked := Try.checked }
namespace Rows
def none {H : Type} : Left H := { results := [], args := [] }

/-- 'tandemlaw07.BriefTells': WHATEVER THE INPUT: true; the input reads as it did. -/
def briefTellsSpec : ChangeSpec := { name := "briefTells", fn := fun _ => fun
  | [d] => { results := [.lit (.bool true)], args := [d] }
  | _ => none }
def briefTellsRow : OpenClaim := { program := "ytdodbfpahmkpbaa", sum := "70f87b404d9cb40008479941d4bc89d9301274ca6fc00cce0890c778a0839951", func := "tandem/tandemlaw07.BriefTells", spec := "briefTells", apart := false }
def BriefTellsSaid : Prop := briefTellsRow.holds Try.pinned (OpenSpec.ofChange briefTellsSpec)

/-- ITS FALSE NEIGHBOUR: 'it returns false'. Refute it at one input. -/
def briefTellsWrong : ChangeSpec := { name := "briefTells", fn := fun _ => fun
  | [d] => { results := [.lit (.bool false)], args := [d] }
  | _ => none }
def BriefTellsWrongFalsely : Prop := briefTellsRow.holds Try.pinned (OpenSpec.ofChange briefTellsWrong)

/-- 'tandemlaw07.BriefRows': WHATEVER THE INPUT: true; the input reads as it did. -/
def briefRowsSpec : ChangeSpec := { name := "briefRows", fn := fun _ => fun
  | [d] => { results := [.lit (.bool true)], args := [d] }
  | _ => none }
def briefRowsRow : OpenClaim := { program := "ytdodbfpahmkpbaa", sum := "70f87b404d9cb40008479941d4bc89d9301274ca6fc00cce0890c778a0839951", func := "tandem/tandemlaw07.BriefRows", spec := "briefRows", apart := false }
def BriefRowsSaid : Prop := briefRowsRow.holds Try.pinned (OpenSpec.ofChange briefRowsSpec)

/-- ITS FALSE NEIGHBOUR: 'it returns false'. Refute it at one input. -/
def briefRowsWrong : ChangeSpec := { name := "briefRows", fn := fun _ => fun
  | [d] => { results := [.lit (.bool false)], args := [d] }
  | _ => none }
def BriefRowsWrongFalsely : Prop := briefRowsRow.holds Try.pinned (OpenSpec.ofChange briefRowsWrong)

/-- 'tandemlaw07.BriefLong': WHATEVER THE INPUT: true; the input reads as it did. -/
def briefLongSpec : ChangeSpec := { name := "briefLong", fn := fun _ => fun
  | [d] => { results := [.lit (.bool true)], args := [d] }
  | _ => none }
def briefLongRow : OpenClaim := { program := "ytdodbfpahmkpbaa", sum := "70f87b404d9cb40008479941d4bc89d9301274ca6fc00cce0890c778a0839951", func := "tandem/tandemlaw07.BriefLong", spec := "briefLong", apart := false }
def BriefLongSaid : Prop := briefLongRow.holds Try.pinned (OpenSpec.ofChange briefLongSpec)

/-- ITS FALSE NEIGHBOUR: 'it returns false'. Refute it at one input. -/
def briefLongWrong : ChangeSpec := { name := "briefLong", fn := fun _ => fun
  | [d] => { results := [.lit (.bool false)], args := [d] }
  | _ => none }
def BriefLongWrongFalsely : Prop := briefLongRow.holds Try.pinned (OpenSpec.ofChange briefLongWrong)

/- THE SECOND FORM. 'bulk': how many values and letters a reading holds, each counted each time it is reached (what is shared counts as often as it is met; a slice's spare places count too). A statement '..UptoSaid' is the law's where the arguments, and the package variables that the reading takes, are together of bulk at most 1048576: NARROWER than '..Said'. Prove '..Said' where nothing that the law and all that it calls make is longer than what came in: it says more and counts as full. Else prove '..UptoSaid'. A law counts once. -/
mutual
def uptoBulk {H : Type} : DataW H → Nat
  | .lit (.string bytes) => bytes.length + 1
  | .lit _ => 1
  | .nil => 1
  | .ptr d => uptoBulk d + 1
  | .slice elems spare => uptoBulkAll elems + uptoBulkAll spare + 1
  | .agg parts => uptoBulkAll parts + 1
  | .iface _ d => uptoBulk d + 1
  | .map entries => uptoBulkEntries entries + 1
  | .held _ => 1
def uptoBulkAll {H : Type} : List (DataW H) → Nat
  | [] => 0
  | d :: r => uptoBulk d + uptoBulkAll r
def uptoBulkEntries {H : Type} : List (Lit × DataW H) → Nat
  | [] => 0
  | x :: r => uptoBulkEntry x + uptoBulkEntries r
def uptoBulkEntry {H : Type} : Lit × DataW H → Nat
  | (.string bytes, d) => bytes.length + uptoBulk d + 1
  | (_, d) => uptoBulk d + 1
 end
def uptoSmall : (H : Type) → List (DataW H) → Bool := fun _ ds => decide (uptoBulkAll ds ≤ 1048576)
def OpenSpec.upto (s : _root_.Go.ChangeSpec) : _root_.Go.OpenSpec := { _root_.Go.OpenSpec.ofChange s with cond := some uptoSmall }

/-- 'tandemlaw07.BriefTells', WHERE WHAT IT READS IS OF BULK AT MOST 1048576: true; the input reads as it did. -/
def briefTellsUptoRow : OpenClaim := { program := "ytdodbfpahmkpbaa", sum := "70f87b404d9cb40008479941d4bc89d9301274ca6fc00cce0890c778a0839951", func := "tandem/tandemlaw07.BriefTells", spec := "briefTells", apart := false, narrowed := true }
def BriefTellsUptoSaid : Prop := briefTellsUptoRow.holds Try.pinned (OpenSpec.upto briefTellsSpec)

/-- 'tandemlaw07.BriefRows', WHERE WHAT IT READS IS OF BULK AT MOST 1048576: true; the input reads as it did. -/
def briefRowsUptoRow : OpenClaim := { program := "ytdodbfpahmkpbaa", sum := "70f87b404d9cb40008479941d4bc89d9301274ca6fc00cce0890c778a0839951", func := "tandem/tandemlaw07.BriefRows", spec := "briefRows", apart := false, narrowed := true }
def BriefRowsUptoSaid : Prop := briefRowsUptoRow.holds Try.pinned (OpenSpec.upto briefRowsSpec)

/-- 'tandemlaw07.BriefLong', WHERE WHAT IT READS IS OF BULK AT MOST 1048576: true; the input reads as it did. -/
def briefLongUptoRow : OpenClaim := { program := "ytdodbfpahmkpbaa", sum := "70f87b404d9cb40008479941d4bc89d9301274ca6fc00cce0890c778a0839951", func := "tandem/tandemlaw07.BriefLong", spec := "briefLong", apart := false, narrowed := true }
def BriefLongUptoSaid : Prop := briefLongUptoRow.holds Try.pinned (OpenSpec.upto briefLongSpec)

end Rows
end Go.Proofs.Ytdodbfpahmkpbaa
