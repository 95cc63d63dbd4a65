/-
  No cell of these rows narrows 'for every input' (looked for: loops, veiled, ifaces, maps, wideKeys, modest, calm, conditions, laid).
  DERIVED. THE GIVEN ROWS OF THIS SEAT. 4 by the template 'for every input the law returns true; each argument reads behind the call as it read before'; 0 by the template 'total and deterministic' (their statements: YtmbaimcneffnlaaTotals.lean).
  GIVEN WITH THE SEED: the statements are not yours to turn. If you find one false, say at which input.
  Laid BY PROGRAM, IN A SANDBOX (cutbox-rows.mjs): the forced cells as the released guide's own fill.sh prints them over the translation 08886db3e36f12ca… (all of the seat's roots in one cut). By AI agents, Wed Nov 11 2026. No macro, syntax, notation, axiom, sorry.
-/
import Derived.Test.YtmbaimcneffnlaaChecked
import GoSem.Claim
import GoSem.ClaimJoined
import GoSem.ClaimMapViews
import Derived.JoinedTies
import Derived.KernelRfl
namespace Go.Proofs.Ytmbaimcneffnlaa
/- THE CELL 'sum', in the pinned program and in every row, IS THE sha256 OF THE DUMP (.gsa) THAT YtmbaimcneffnlaaProg.lean LOADS. Nothing in Lean hashes anything: it is a label: what it is worth is what the hold of that sum in a sandbox is worth. -/
noncomputable def Try.pinned : Pinned := { name := "ytmbaimcneffnlaa", sum := "08886db3e36f12ca2f89deeefb527f58158708e6262cb0921f4fec7634f59f0d", checked := Try.checked }
namespace Rows
def none {H : Type} : Left H := { results := [], args := [] }

/-- 'tandemlaw12.DevLooks': WHATEVER THE INPUT: true; the input reads as it did. -/
def devLooksSpec : ChangeSpec := { name := "devLooks", fn := fun _ => fun
  | [d1, d2, d3] => { results := [.lit (.bool true)], args := [d1, d2, d3] }
  | _ => none }
def devLooksRow : OpenClaim := { program := "ytmbaimcneffnlaa", sum := "08886db3e36f12ca2f89deeefb527f58158708e6262cb0921f4fec7634f59f0d", func := "tandem/tandemlaw12.DevLooks", spec := "devLooks", apart := false }
def DevLooksSaid : Prop := devLooksRow.holds Try.pinned (OpenSpec.ofChange devLooksSpec)

/-- ITS FALSE NEIGHBOUR: 'it returns false'. Refute it at one input. -/
def devLooksWrong : ChangeSpec := { name := "devLooks", fn := fun _ => fun
  | [d1, d2, d3] => { results := [.lit (.bool false)], args := [d1, d2, d3] }
  | _ => none }
def DevLooksWrongFalsely : Prop := devLooksRow.holds Try.pinned (OpenSpec.ofChange devLooksWrong)

/-- 'tandemlaw12.DevRight': WHATEVER THE INPUT: true; the input reads as it did. -/
def devRightSpec : ChangeSpec := { name := "devRight", fn := fun _ => fun
  | [d1, d2, d3, d4, d5, d6] => { results := [.lit (.bool true)], args := [d1, d2, d3, d4, d5, d6] }
  | _ => none }
def devRightRow : OpenClaim := { program := "ytmbaimcneffnlaa", sum := "08886db3e36f12ca2f89deeefb527f58158708e6262cb0921f4fec7634f59f0d", func := "tandem/tandemlaw12.DevRight", spec := "devRight", apart := false }
def DevRightSaid : Prop := devRightRow.holds Try.pinned (OpenSpec.ofChange devRightSpec)

/-- ITS FALSE NEIGHBOUR: 'it returns false'. Refute it at one input. -/
def devRightWrong : ChangeSpec := { name := "devRight", fn := fun _ => fun
  | [d1, d2, d3, d4, d5, d6] => { results := [.lit (.bool false)], args := [d1, d2, d3, d4, d5, d6] }
  | _ => none }
def DevRightWrongFalsely : Prop := devRightRow.holds Try.pinned (OpenSpec.ofChange devRightWrong)

/-- 'tandemlaw12.DevBytes': WHATEVER THE INPUT: true; the input reads as it did. -/
def devBytesSpec : ChangeSpec := { name := "devBytes", fn := fun _ => fun
  | [d] => { results := [.lit (.bool true)], args := [d] }
  | _ => none }
def devBytesRow : OpenClaim := { program := "ytmbaimcneffnlaa", sum := "08886db3e36f12ca2f89deeefb527f58158708e6262cb0921f4fec7634f59f0d", func := "tandem/tandemlaw12.DevBytes", spec := "devBytes", apart := false }
def DevBytesSaid : Prop := devBytesRow.holds Try.pinned (OpenSpec.ofChange devBytesSpec)

/-- ITS FALSE NEIGHBOUR: 'it returns false'. Refute it at one input. -/
def devBytesWrong : ChangeSpec := { name := "devBytes", fn := fun _ => fun
  | [d] => { results := [.lit (.bool false)], args := [d] }
  | _ => none }
def DevBytesWrongFalsely : Prop := devBytesRow.holds Try.pinned (OpenSpec.ofChange devBytesWrong)

/-- 'tandemlaw12.DevSectors': WHATEVER THE INPUT: true; the input reads as it did. -/
def devSectorsSpec : ChangeSpec := { name := "devSectors", fn := fun _ => fun
  | [d1, d2, d3, d4, d5] => { results := [.lit (.bool true)], args := [d1, d2, d3, d4, d5] }
  | _ => none }
def devSectorsRow : OpenClaim := { program := "ytmbaimcneffnlaa", sum := "08886db3e36f12ca2f89deeefb527f58158708e6262cb0921f4fec7634f59f0d", func := "tandem/tandemlaw12.DevSectors", spec := "devSectors", apart := false }
def DevSectorsSaid : Prop := devSectorsRow.holds Try.pinned (OpenSpec.ofChange devSectorsSpec)

/-- ITS FALSE NEIGHBOUR: 'it returns false'. Refute it at one input. -/
def devSectorsWrong : ChangeSpec := { name := "devSectors", fn := fun _ => fun
  | [d1, d2, d3, d4, d5] => { results := [.lit (.bool false)], args := [d1, d2, d3, d4, d5] }
  | _ => none }
def DevSectorsWrongFalsely : Prop := devSectorsRow.holds Try.pinned (OpenSpec.ofChange devSectorsWrong)

/- THE SECOND FORM. 'bulk': how many values and letters a reading holds, each counted each time it is reached (what is shared counts as often as it is met; a slice's spare places count too). A statement '..UptoSaid' is the law's where the arguments, and the package variables that the reading takes, are together of bulk at most 1048576: NARROWER than '..Said'. Prove '..Said' where nothing that the law and all that it calls make is longer than what came in: it says more and counts as full. Else prove '..UptoSaid'. A law counts once. -/
mutual
def uptoBulk {H : Type} : DataW H → Nat
  | .lit (.string bytes) => bytes.length + 1
  | .lit _ => 1
  | .nil => 1
  | .ptr d => uptoBulk d + 1
  | .slice elems spare => uptoBulkAll elems + uptoBulkAll spare + 1
  | .agg parts => uptoBulkAll parts + 1
  | .iface _ d => uptoBulk d + 1
  | .map entries => uptoBulkEntries entries + 1
  | .held _ => 1
def uptoBulkAll {H : Type} : List (DataW H) → Nat
  | [] => 0
  | d :: r => uptoBulk d + uptoBulkAll r
def uptoBulkEntries {H : Type} : List (Lit × DataW H) → Nat
  | [] => 0
  | x :: r => uptoBulkEntry x + uptoBulkEntries r
def uptoBulkEntry {H : Type} : Lit × DataW H → Nat
  | (.string bytes, d) => bytes.length + uptoBulk d + 1
  | (_, d) => uptoBulk d + 1
 end
def uptoSmall : (H : Type) → List (DataW H) → Bool := fun _ ds => decide (uptoBulkAll ds ≤ 1048576)
def OpenSpec.upto (s : _root_.Go.ChangeSpec) : _root_.Go.OpenSpec := { _root_.Go.OpenSpec.ofChange s with cond := some uptoSmall }

/-- 'tandemlaw12.DevLooks', WHERE WHAT IT READS IS OF BULK AT MOST 1048576: true; the input reads as it did. -/
def devLooksUptoRow : OpenClaim := { program := "ytmbaimcneffnlaa", sum := "08886db3e36f12ca2f89deeefb527f58158708e6262cb0921f4fec7634f59f0d", func := "tandem/tandemlaw12.DevLooks", spec := "devLooks", apart := false, narrowed := true }
def DevLooksUptoSaid : Prop := devLooksUptoRow.holds Try.pinned (OpenSpec.upto devLooksSpec)

/-- 'tandemlaw12.DevRight', WHERE WHAT IT READS IS OF BULK AT MOST 1048576: true; the input reads as it did. -/
def devRightUptoRow : OpenClaim := { program := "ytmbaimcneffnlaa", sum := "08886db3e36f12ca2f89deeefb527f58158708e6262cb0921f4fec7634f59f0d", func := "tandem/tandemlaw12.DevRight", spec := "devRight", apart := false, narrowed := true }
def DevRightUptoSaid : Prop := devRightUptoRow.holds Try.pinned (OpenSpec.upto devRightSpec)

/-- 'tandemlaw12.DevBytes', WHERE WHAT IT READS IS OF BULK AT MOST 1048576: true; the input reads as it did. -/
def devBytesUptoRow : OpenClaim := { program := "ytmbaimcneffnlaa", sum := "08886db3e36f12ca2f89deeefb527f58158708e6262cb0921f4fec7634f59f0d", func := "tandem/tandemlaw12.DevBytes", spec := "devBytes", apart := false, narrowed := true }
def DevBytesUptoSaid : Prop := devBytesUptoRow.holds Try.pinned (OpenSpec.upto devBytesSpec)

/-- 'tandemlaw12.DevSectors', WHERE WHAT IT READS IS OF BULK AT MOST 1048576: true; the input reads as it did. -/
def devSectorsUptoRow : OpenClaim := { program := "ytmbaimcneffnlaa", sum := "08886db3e36f12ca2f89deeefb527f58158708e6262cb0921f4fec7634f59f0d", func := "tandem/tandemlaw12.DevSectors", spec := "devSectors", apart := false, narrowed := true }
def DevSectorsUptoSaid : Prop := devSectorsUptoRow.holds Try.pinned (OpenSpec.upto devSectorsSpec)

end Rows
end Go.Proofs.Ytmbaimcneffnlaa
