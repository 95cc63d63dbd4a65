/-
  No cell of these rows narrows 'for every input' (looked for: loops, veiled, ifaces, maps, wideKeys, modest, calm, conditions, laid).
  DERIVED. THE GIVEN ROWS OF THIS SEAT. 6 by the template 'for every input the law returns true; each argument reads behind the call as it read before'; 0 by the template 'total and deterministic' (their statements: YtkecjopojnllnaaTotals.lean).
  GIVEN WITH THE SEED: the statements are not yours to turn. If you find one false, say at which input.
  Laid BY PROGRAM, IN A SANDBOX (cutbox-rows.mjs): the forced cells as the released guide's own fill.sh prints them over the translation 049a4855d74fc575… (all of the seat's roots in one cut). By AI agents, Wed Nov 11 2026. No macro, syntax, notation, axiom, sorry.
-/
import Derived.Test.YtkecjopojnllnaaChecked
import GoSem.Claim
import GoSem.ClaimJoined
import GoSem.ClaimMapViews
import Derived.JoinedTies
import Derived.KernelRfl
namespace Go.Proofs.Ytkecjopojnllnaa
/- THE CELL 'sum', in the pinned program and in every row, IS THE sha256 OF THE DUMP (.gsa) THAT YtkecjopojnllnaaProg.lean LOADS. Nothing in Lean hashes anything: it is a label: what it is worth is what the hold of that sum in a sandbox is worth. -/
noncomputable def Try.pinned : Pinned := { name := "ytkecjopojnllnaa", sum := "049a4855d74fc57562735be06f1dbdb6f7001a4671400e05e2172dc88baed8ee", checked := Try.checked }
namespace Rows
def none {H : Type} : Left H := { results := [], args := [] }

/-- 'tandemlaw04.WalOpens': WHATEVER THE INPUT: true; the input reads as it did. -/
def walOpensSpec : ChangeSpec := { name := "walOpens", fn := fun _ => fun
  | [d1, d2] => { results := [.lit (.bool true)], args := [d1, d2] }
  | _ => none }
def walOpensRow : OpenClaim := { program := "ytkecjopojnllnaa", sum := "049a4855d74fc57562735be06f1dbdb6f7001a4671400e05e2172dc88baed8ee", func := "tandem/tandemlaw04.WalOpens", spec := "walOpens", unfollowed := true, recurses := true, apart := false }
def WalOpensSaid : Prop := walOpensRow.holds Try.pinned (OpenSpec.ofChange walOpensSpec)

/-- ITS FALSE NEIGHBOUR: 'it returns false'. Refute it at one input. -/
def walOpensWrong : ChangeSpec := { name := "walOpens", fn := fun _ => fun
  | [d1, d2] => { results := [.lit (.bool false)], args := [d1, d2] }
  | _ => none }
def WalOpensWrongFalsely : Prop := walOpensRow.holds Try.pinned (OpenSpec.ofChange walOpensWrong)

/-- 'tandemlaw04.WalPlans': WHATEVER THE INPUT: true; the input reads as it did. -/
def walPlansSpec : ChangeSpec := { name := "walPlans", fn := fun _ => fun
  | [d1, d2, d3, d4, d5] => { results := [.lit (.bool true)], args := [d1, d2, d3, d4, d5] }
  | _ => none }
def walPlansRow : OpenClaim := { program := "ytkecjopojnllnaa", sum := "049a4855d74fc57562735be06f1dbdb6f7001a4671400e05e2172dc88baed8ee", func := "tandem/tandemlaw04.WalPlans", spec := "walPlans", unfollowed := true, recurses := true, apart := false }
def WalPlansSaid : Prop := walPlansRow.holds Try.pinned (OpenSpec.ofChange walPlansSpec)

/-- ITS FALSE NEIGHBOUR: 'it returns false'. Refute it at one input. -/
def walPlansWrong : ChangeSpec := { name := "walPlans", fn := fun _ => fun
  | [d1, d2, d3, d4, d5] => { results := [.lit (.bool false)], args := [d1, d2, d3, d4, d5] }
  | _ => none }
def WalPlansWrongFalsely : Prop := walPlansRow.holds Try.pinned (OpenSpec.ofChange walPlansWrong)

/-- 'tandemlaw04.WalMends': WHATEVER THE INPUT: true; the input reads as it did. -/
def walMendsSpec : ChangeSpec := { name := "walMends", fn := fun _ => fun
  | [d1, d2] => { results := [.lit (.bool true)], args := [d1, d2] }
  | _ => none }
def walMendsRow : OpenClaim := { program := "ytkecjopojnllnaa", sum := "049a4855d74fc57562735be06f1dbdb6f7001a4671400e05e2172dc88baed8ee", func := "tandem/tandemlaw04.WalMends", spec := "walMends", unfollowed := true, recurses := true, apart := false }
def WalMendsSaid : Prop := walMendsRow.holds Try.pinned (OpenSpec.ofChange walMendsSpec)

/-- ITS FALSE NEIGHBOUR: 'it returns false'. Refute it at one input. -/
def walMendsWrong : ChangeSpec := { name := "walMends", fn := fun _ => fun
  | [d1, d2] => { results := [.lit (.bool false)], args := [d1, d2] }
  | _ => none }
def WalMendsWrongFalsely : Prop := walMendsRow.holds Try.pinned (OpenSpec.ofChange walMendsWrong)

/-- 'tandemlaw04.WalKeeps': WHATEVER THE INPUT: true; the input reads as it did. -/
def walKeepsSpec : ChangeSpec := { name := "walKeeps", fn := fun _ => fun
  | [d1, d2, d3] => { results := [.lit (.bool true)], args := [d1, d2, d3] }
  | _ => none }
def walKeepsRow : OpenClaim := { program := "ytkecjopojnllnaa", sum := "049a4855d74fc57562735be06f1dbdb6f7001a4671400e05e2172dc88baed8ee", func := "tandem/tandemlaw04.WalKeeps", spec := "walKeeps", unfollowed := true, recurses := true, apart := false }
def WalKeepsSaid : Prop := walKeepsRow.holds Try.pinned (OpenSpec.ofChange walKeepsSpec)

/-- ITS FALSE NEIGHBOUR: 'it returns false'. Refute it at one input. -/
def walKeepsWrong : ChangeSpec := { name := "walKeeps", fn := fun _ => fun
  | [d1, d2, d3] => { results := [.lit (.bool false)], args := [d1, d2, d3] }
  | _ => none }
def WalKeepsWrongFalsely : Prop := walKeepsRow.holds Try.pinned (OpenSpec.ofChange walKeepsWrong)

/-- 'tandemlaw04.WalAnew': WHATEVER THE INPUT: true; the input reads as it did. -/
def walAnewSpec : ChangeSpec := { name := "walAnew", fn := fun _ => fun
  | [d1, d2, d3, d4] => { results := [.lit (.bool true)], args := [d1, d2, d3, d4] }
  | _ => none }
def walAnewRow : OpenClaim := { program := "ytkecjopojnllnaa", sum := "049a4855d74fc57562735be06f1dbdb6f7001a4671400e05e2172dc88baed8ee", func := "tandem/tandemlaw04.WalAnew", spec := "walAnew", unfollowed := true, recurses := true, apart := false }
def WalAnewSaid : Prop := walAnewRow.holds Try.pinned (OpenSpec.ofChange walAnewSpec)

/-- ITS FALSE NEIGHBOUR: 'it returns false'. Refute it at one input. -/
def walAnewWrong : ChangeSpec := { name := "walAnew", fn := fun _ => fun
  | [d1, d2, d3, d4] => { results := [.lit (.bool false)], args := [d1, d2, d3, d4] }
  | _ => none }
def WalAnewWrongFalsely : Prop := walAnewRow.holds Try.pinned (OpenSpec.ofChange walAnewWrong)

/-- 'tandemlaw04.WalGoesOn': WHATEVER THE INPUT: true; the input reads as it did. -/
def walGoesOnSpec : ChangeSpec := { name := "walGoesOn", fn := fun _ => fun
  | [d1, d2, d3] => { results := [.lit (.bool true)], args := [d1, d2, d3] }
  | _ => none }
def walGoesOnRow : OpenClaim := { program := "ytkecjopojnllnaa", sum := "049a4855d74fc57562735be06f1dbdb6f7001a4671400e05e2172dc88baed8ee", func := "tandem/tandemlaw04.WalGoesOn", spec := "walGoesOn", unfollowed := true, recurses := true, apart := false }
def WalGoesOnSaid : Prop := walGoesOnRow.holds Try.pinned (OpenSpec.ofChange walGoesOnSpec)

/-- ITS FALSE NEIGHBOUR: 'it returns false'. Refute it at one input. -/
def walGoesOnWrong : ChangeSpec := { name := "walGoesOn", fn := fun _ => fun
  | [d1, d2, d3] => { results := [.lit (.bool false)], args := [d1, d2, d3] }
  | _ => none }
def WalGoesOnWrongFalsely : Prop := walGoesOnRow.holds Try.pinned (OpenSpec.ofChange walGoesOnWrong)

/- THE SECOND FORM. 'bulk': how many values and letters a reading holds, each counted each time it is reached (what is shared counts as often as it is met; a slice's spare places count too). A statement '..UptoSaid' is the law's where the arguments, and the package variables that the reading takes, are together of bulk at most 1048576: NARROWER than '..Said'. Prove '..Said' where nothing that the law and all that it calls make is longer than what came in: it says more and counts as full. Else prove '..UptoSaid'. A law counts once. -/
mutual
def uptoBulk {H : Type} : DataW H → Nat
  | .lit (.string bytes) => bytes.length + 1
  | .lit _ => 1
  | .nil => 1
  | .ptr d => uptoBulk d + 1
  | .slice elems spare => uptoBulkAll elems + uptoBulkAll spare + 1
  | .agg parts => uptoBulkAll parts + 1
  | .iface _ d => uptoBulk d + 1
  | .map entries => uptoBulkEntries entries + 1
  | .held _ => 1
def uptoBulkAll {H : Type} : List (DataW H) → Nat
  | [] => 0
  | d :: r => uptoBulk d + uptoBulkAll r
def uptoBulkEntries {H : Type} : List (Lit × DataW H) → Nat
  | [] => 0
  | x :: r => uptoBulkEntry x + uptoBulkEntries r
def uptoBulkEntry {H : Type} : Lit × DataW H → Nat
  | (.string bytes, d) => bytes.length + uptoBulk d + 1
  | (_, d) => uptoBulk d + 1
 end
def uptoSmall : (H : Type) → List (DataW H) → Bool := fun _ ds => decide (uptoBulkAll ds ≤ 1048576)
def OpenSpec.upto (s : _root_.Go.ChangeSpec) : _root_.Go.OpenSpec := { _root_.Go.OpenSpec.ofChange s with cond := some uptoSmall }

/-- 'tandemlaw04.WalOpens', WHERE WHAT IT READS IS OF BULK AT MOST 1048576: true; the input reads as it did. -/
def walOpensUptoRow : OpenClaim := { program := "ytkecjopojnllnaa", sum := "049a4855d74fc57562735be06f1dbdb6f7001a4671400e05e2172dc88baed8ee", func := "tandem/tandemlaw04.WalOpens", spec := "walOpens", unfollowed := true, recurses := true, apart := false, narrowed := true }
def WalOpensUptoSaid : Prop := walOpensUptoRow.holds Try.pinned (OpenSpec.upto walOpensSpec)

/-- 'tandemlaw04.WalPlans', WHERE WHAT IT READS IS OF BULK AT MOST 1048576: true; the input reads as it did. -/
def walPlansUptoRow : OpenClaim := { program := "ytkecjopojnllnaa", sum := "049a4855d74fc57562735be06f1dbdb6f7001a4671400e05e2172dc88baed8ee", func := "tandem/tandemlaw04.WalPlans", spec := "walPlans", unfollowed := true, recurses := true, apart := false, narrowed := true }
def WalPlansUptoSaid : Prop := walPlansUptoRow.holds Try.pinned (OpenSpec.upto walPlansSpec)

/-- 'tandemlaw04.WalMends', WHERE WHAT IT READS IS OF BULK AT MOST 1048576: true; the input reads as it did. -/
def walMendsUptoRow : OpenClaim := { program := "ytkecjopojnllnaa", sum := "049a4855d74fc57562735be06f1dbdb6f7001a4671400e05e2172dc88baed8ee", func := "tandem/tandemlaw04.WalMends", spec := "walMends", unfollowed := true, recurses := true, apart := false, narrowed := true }
def WalMendsUptoSaid : Prop := walMendsUptoRow.holds Try.pinned (OpenSpec.upto walMendsSpec)

/-- 'tandemlaw04.WalKeeps', WHERE WHAT IT READS IS OF BULK AT MOST 1048576: true; the input reads as it did. -/
def walKeepsUptoRow : OpenClaim := { program := "ytkecjopojnllnaa", sum := "049a4855d74fc57562735be06f1dbdb6f7001a4671400e05e2172dc88baed8ee", func := "tandem/tandemlaw04.WalKeeps", spec := "walKeeps", unfollowed := true, recurses := true, apart := false, narrowed := true }
def WalKeepsUptoSaid : Prop := walKeepsUptoRow.holds Try.pinned (OpenSpec.upto walKeepsSpec)

/-- 'tandemlaw04.WalAnew', WHERE WHAT IT READS IS OF BULK AT MOST 1048576: true; the input reads as it did. -/
def walAnewUptoRow : OpenClaim := { program := "ytkecjopojnllnaa", sum := "049a4855d74fc57562735be06f1dbdb6f7001a4671400e05e2172dc88baed8ee", func := "tandem/tandemlaw04.WalAnew", spec := "walAnew", unfollowed := true, recurses := true, apart := false, narrowed := true }
def WalAnewUptoSaid : Prop := walAnewUptoRow.holds Try.pinned (OpenSpec.upto walAnewSpec)

/-- 'tandemlaw04.WalGoesOn', WHERE WHAT IT READS IS OF BULK AT MOST 1048576: true; the input reads as it did. -/
def walGoesOnUptoRow : OpenClaim := { program := "ytkecjopojnllnaa", sum := "049a4855d74fc57562735be06f1dbdb6f7001a4671400e05e2172dc88baed8ee", func := "tandem/tandemlaw04.WalGoesOn", spec := "walGoesOn", unfollowed := true, recurses := true, apart := false, narrowed := true }
def WalGoesOnUptoSaid : Prop := walGoesOnUptoRow.holds Try.pinned (OpenSpec.upto walGoesOnSpec)

end Rows
end Go.Proofs.Ytkecjopojnllnaa
