/-
  NARROWER THAN 'FOR EVERY INPUT', by the rows' own cells (each row's printed sentence says how): HartRight: laid · MachineOn: laid · MachineAhead: laid · MachineNumbers: laid.
  DERIVED. THE GIVEN ROWS OF THIS SEAT. 4 by the template 'for every input the law returns true; each argument reads behind the call as it read before'; 0 by the template 'total and deterministic' (their statements: YtplcfdnfeclpmaaGreatDoorTotals.lean).
  GIVEN WITH THE SEED: the statements are not yours to turn. If you find one false, say at which input.
  Laid BY PROGRAM, IN A SANDBOX (cutbox-rows.mjs): the forced cells as the released guide's own fill.sh prints them over the translation 8d1c836edabfccc4… (all of the seat's roots in one cut). By AI agents, Wed Nov 11 2026. No macro, syntax, notation, axiom, sorry.
-/
import Derived.Test.YtplcfdnfeclpmaaGreatDoorChecked
import GoSem.Claim
import GoSem.ClaimJoined
import GoSem.ClaimMapViews
import Derived.JoinedTies
import Derived.KernelRfl
namespace Go.Proofs.YtplcfdnfeclpmaaGreatDoor
/- THE CELL 'sum', in the pinned program and in every row, IS THE sha256 OF THE DUMP (.gsa) THAT YtplcfdnfeclpmaaGreatDoorProg.lean LOADS. Nothing in Lean hashes anything: it is a label: what it is worth is what the hold of that sum in a sandbox is worth. -/
noncomputable def Tryz.pinned : Pinned := { name := "ytplcfdnfeclpmaagreatdoor", sum := "8d1c836edabfccc4d2d237cb92c0627e6fd112dfaa95a20af3859b9717036979", checked := Tryz.checked }
namespace Rows
def none {H : Type} : Left H := { results := [], args := [] }

/- WHAT THE LISTED PACKAGE-LEVEL VARIABLES READ AS WHEN THE CALL BEGINS. Each datum BY PROGRAM (the guide's laid-datum.mjs) off the statement by which the dump's own 'gosem.cut.vars' lays the variable. In a bare row this is a premise. The card (YtplcfdnfeclpmaaGreatDoorCards.lean) ties it to the program's text. -/
def laid_tandem_decode_branches {H : Type} : DataW H := .agg [.lit (.int .i64 5), .lit (.int .i64 6), .lit (.int .i64 0), .lit (.int .i64 0), .lit (.int .i64 7), .lit (.int .i64 8), .lit (.int .i64 9), .lit (.int .i64 10)]
def laid_tandem_decode_loads {H : Type} : DataW H := .agg [.lit (.int .i64 11), .lit (.int .i64 12), .lit (.int .i64 13), .lit (.int .i64 14), .lit (.int .i64 15), .lit (.int .i64 16), .lit (.int .i64 17), .lit (.int .i64 0)]
def laid_tandem_decode_stores {H : Type} : DataW H := .agg [.lit (.int .i64 18), .lit (.int .i64 19), .lit (.int .i64 20), .lit (.int .i64 21), .lit (.int .i64 0), .lit (.int .i64 0), .lit (.int .i64 0), .lit (.int .i64 0)]
def laid_tandem_decode_numbers {H : Type} : DataW H := .agg [.lit (.int .i64 22), .lit (.int .i64 0), .lit (.int .i64 23), .lit (.int .i64 24), .lit (.int .i64 25), .lit (.int .i64 0), .lit (.int .i64 26), .lit (.int .i64 27)]
def laid_tandem_decode_sums {H : Type} : DataW H := .agg [.lit (.int .i64 31), .lit (.int .i64 33), .lit (.int .i64 34), .lit (.int .i64 35), .lit (.int .i64 36), .lit (.int .i64 37), .lit (.int .i64 39), .lit (.int .i64 40)]
def laid_tandem_decode_products {H : Type} : DataW H := .agg [.lit (.int .i64 60), .lit (.int .i64 61), .lit (.int .i64 62), .lit (.int .i64 63), .lit (.int .i64 64), .lit (.int .i64 65), .lit (.int .i64 66), .lit (.int .i64 67)]
def laid_tandem_decode_others {H : Type} : DataW H := .agg [.lit (.int .i64 32), .lit (.int .i64 0), .lit (.int .i64 0), .lit (.int .i64 0), .lit (.int .i64 0), .lit (.int .i64 38), .lit (.int .i64 0), .lit (.int .i64 0)]
def laid_tandem_decode_wordSums {H : Type} : DataW H := .agg [.lit (.int .i64 45), .lit (.int .i64 47), .lit (.int .i64 0), .lit (.int .i64 0), .lit (.int .i64 0), .lit (.int .i64 48), .lit (.int .i64 0), .lit (.int .i64 0)]
def laid_tandem_decode_wordProducts {H : Type} : DataW H := .agg [.lit (.int .i64 68), .lit (.int .i64 0), .lit (.int .i64 0), .lit (.int .i64 0), .lit (.int .i64 69), .lit (.int .i64 70), .lit (.int .i64 71), .lit (.int .i64 72)]
def laid_tandem_decode_wordOthers {H : Type} : DataW H := .agg [.lit (.int .i64 46), .lit (.int .i64 0), .lit (.int .i64 0), .lit (.int .i64 0), .lit (.int .i64 0), .lit (.int .i64 49), .lit (.int .i64 0), .lit (.int .i64 0)]
def laid_tandem_decode_fences {H : Type} : DataW H := .agg [.lit (.int .i64 50), .lit (.int .i64 51), .lit (.int .i64 0), .lit (.int .i64 0), .lit (.int .i64 0), .lit (.int .i64 0), .lit (.int .i64 0), .lit (.int .i64 0)]
def laid_tandem_decode_registers {H : Type} : DataW H := .agg [.lit (.int .i64 0), .lit (.int .i64 54), .lit (.int .i64 55), .lit (.int .i64 56), .lit (.int .i64 0), .lit (.int .i64 57), .lit (.int .i64 58), .lit (.int .i64 59)]

/-- 'tandemlaw15.HartRight': WHATEVER THE INPUT: true; the input reads as it did. -/
def hartRightSpec : ChangeSpec := { name := "hartRight", fn := fun _ => fun
  | [d1, d2] => { results := [.lit (.bool true)], args := [d1, d2] }
  | _ => none }
def hartRightRow : OpenClaim := { program := "ytplcfdnfeclpmaagreatdoor", sum := "8d1c836edabfccc4d2d237cb92c0627e6fd112dfaa95a20af3859b9717036979", func := "tandem/tandemlaw15.HartRight", spec := "hartRight", named := ["tandem/decode.branches", "tandem/decode.loads", "tandem/decode.stores", "tandem/decode.fences", "tandem/decode.numbers", "tandem/decode.sums", "tandem/decode.products", "tandem/decode.others", "tandem/decode.wordSums", "tandem/decode.wordProducts", "tandem/decode.wordOthers", "tandem/decode.registers"], apart := false, laid := [("tandem/decode.branches", laid_tandem_decode_branches), ("tandem/decode.loads", laid_tandem_decode_loads), ("tandem/decode.stores", laid_tandem_decode_stores), ("tandem/decode.numbers", laid_tandem_decode_numbers), ("tandem/decode.sums", laid_tandem_decode_sums), ("tandem/decode.products", laid_tandem_decode_products), ("tandem/decode.others", laid_tandem_decode_others), ("tandem/decode.wordSums", laid_tandem_decode_wordSums), ("tandem/decode.wordProducts", laid_tandem_decode_wordProducts), ("tandem/decode.wordOthers", laid_tandem_decode_wordOthers), ("tandem/decode.fences", laid_tandem_decode_fences), ("tandem/decode.registers", laid_tandem_decode_registers)] }
def HartRightSaid : Prop := hartRightRow.holds Tryz.pinned (OpenSpec.ofChange hartRightSpec)

/-- ITS FALSE NEIGHBOUR: 'it returns false'. Refute it at one input. -/
def hartRightWrong : ChangeSpec := { name := "hartRight", fn := fun _ => fun
  | [d1, d2] => { results := [.lit (.bool false)], args := [d1, d2] }
  | _ => none }
def HartRightWrongFalsely : Prop := hartRightRow.holds Tryz.pinned (OpenSpec.ofChange hartRightWrong)

/-- 'tandemlaw16.MachineOn': WHATEVER THE INPUT: true; the input reads as it did. -/
def machineOnSpec : ChangeSpec := { name := "machineOn", fn := fun _ => fun
  | [d1, d2, d3] => { results := [.lit (.bool true)], args := [d1, d2, d3] }
  | _ => none }
def machineOnRow : OpenClaim := { program := "ytplcfdnfeclpmaagreatdoor", sum := "8d1c836edabfccc4d2d237cb92c0627e6fd112dfaa95a20af3859b9717036979", func := "tandem/tandemlaw16.MachineOn", spec := "machineOn", named := ["tandem/decode.branches", "tandem/decode.loads", "tandem/decode.stores", "tandem/decode.fences", "tandem/decode.numbers", "tandem/decode.sums", "tandem/decode.products", "tandem/decode.others", "tandem/decode.wordSums", "tandem/decode.wordProducts", "tandem/decode.wordOthers", "tandem/decode.registers"], apart := false, laid := [("tandem/decode.branches", laid_tandem_decode_branches), ("tandem/decode.loads", laid_tandem_decode_loads), ("tandem/decode.stores", laid_tandem_decode_stores), ("tandem/decode.numbers", laid_tandem_decode_numbers), ("tandem/decode.sums", laid_tandem_decode_sums), ("tandem/decode.products", laid_tandem_decode_products), ("tandem/decode.others", laid_tandem_decode_others), ("tandem/decode.wordSums", laid_tandem_decode_wordSums), ("tandem/decode.wordProducts", laid_tandem_decode_wordProducts), ("tandem/decode.wordOthers", laid_tandem_decode_wordOthers), ("tandem/decode.fences", laid_tandem_decode_fences), ("tandem/decode.registers", laid_tandem_decode_registers)] }
def MachineOnSaid : Prop := machineOnRow.holds Tryz.pinned (OpenSpec.ofChange machineOnSpec)

/-- ITS FALSE NEIGHBOUR: 'it returns false'. Refute it at one input. -/
def machineOnWrong : ChangeSpec := { name := "machineOn", fn := fun _ => fun
  | [d1, d2, d3] => { results := [.lit (.bool false)], args := [d1, d2, d3] }
  | _ => none }
def MachineOnWrongFalsely : Prop := machineOnRow.holds Tryz.pinned (OpenSpec.ofChange machineOnWrong)

/-- 'tandemlaw16.MachineAhead': WHATEVER THE INPUT: true; the input reads as it did. -/
def machineAheadSpec : ChangeSpec := { name := "machineAhead", fn := fun _ => fun
  | [d1, d2, d3] => { results := [.lit (.bool true)], args := [d1, d2, d3] }
  | _ => none }
def machineAheadRow : OpenClaim := { program := "ytplcfdnfeclpmaagreatdoor", sum := "8d1c836edabfccc4d2d237cb92c0627e6fd112dfaa95a20af3859b9717036979", func := "tandem/tandemlaw16.MachineAhead", spec := "machineAhead", named := ["tandem/decode.branches", "tandem/decode.loads", "tandem/decode.stores", "tandem/decode.fences", "tandem/decode.numbers", "tandem/decode.sums", "tandem/decode.products", "tandem/decode.others", "tandem/decode.wordSums", "tandem/decode.wordProducts", "tandem/decode.wordOthers", "tandem/decode.registers"], apart := false, laid := [("tandem/decode.branches", laid_tandem_decode_branches), ("tandem/decode.loads", laid_tandem_decode_loads), ("tandem/decode.stores", laid_tandem_decode_stores), ("tandem/decode.numbers", laid_tandem_decode_numbers), ("tandem/decode.sums", laid_tandem_decode_sums), ("tandem/decode.products", laid_tandem_decode_products), ("tandem/decode.others", laid_tandem_decode_others), ("tandem/decode.wordSums", laid_tandem_decode_wordSums), ("tandem/decode.wordProducts", laid_tandem_decode_wordProducts), ("tandem/decode.wordOthers", laid_tandem_decode_wordOthers), ("tandem/decode.fences", laid_tandem_decode_fences), ("tandem/decode.registers", laid_tandem_decode_registers)] }
def MachineAheadSaid : Prop := machineAheadRow.holds Tryz.pinned (OpenSpec.ofChange machineAheadSpec)

/-- ITS FALSE NEIGHBOUR: 'it returns false'. Refute it at one input. -/
def machineAheadWrong : ChangeSpec := { name := "machineAhead", fn := fun _ => fun
  | [d1, d2, d3] => { results := [.lit (.bool false)], args := [d1, d2, d3] }
  | _ => none }
def MachineAheadWrongFalsely : Prop := machineAheadRow.holds Tryz.pinned (OpenSpec.ofChange machineAheadWrong)

/-- 'tandemlaw16.MachineNumbers': WHATEVER THE INPUT: true; the input reads as it did. -/
def machineNumbersSpec : ChangeSpec := { name := "machineNumbers", fn := fun _ => fun
  | [d1, d2, d3] => { results := [.lit (.bool true)], args := [d1, d2, d3] }
  | _ => none }
def machineNumbersRow : OpenClaim := { program := "ytplcfdnfeclpmaagreatdoor", sum := "8d1c836edabfccc4d2d237cb92c0627e6fd112dfaa95a20af3859b9717036979", func := "tandem/tandemlaw16.MachineNumbers", spec := "machineNumbers", named := ["tandem/decode.branches", "tandem/decode.loads", "tandem/decode.stores", "tandem/decode.fences", "tandem/decode.numbers", "tandem/decode.sums", "tandem/decode.products", "tandem/decode.others", "tandem/decode.wordSums", "tandem/decode.wordProducts", "tandem/decode.wordOthers", "tandem/decode.registers"], apart := false, laid := [("tandem/decode.branches", laid_tandem_decode_branches), ("tandem/decode.loads", laid_tandem_decode_loads), ("tandem/decode.stores", laid_tandem_decode_stores), ("tandem/decode.numbers", laid_tandem_decode_numbers), ("tandem/decode.sums", laid_tandem_decode_sums), ("tandem/decode.products", laid_tandem_decode_products), ("tandem/decode.others", laid_tandem_decode_others), ("tandem/decode.wordSums", laid_tandem_decode_wordSums), ("tandem/decode.wordProducts", laid_tandem_decode_wordProducts), ("tandem/decode.wordOthers", laid_tandem_decode_wordOthers), ("tandem/decode.fences", laid_tandem_decode_fences), ("tandem/decode.registers", laid_tandem_decode_registers)] }
def MachineNumbersSaid : Prop := machineNumbersRow.holds Tryz.pinned (OpenSpec.ofChange machineNumbersSpec)

/-- ITS FALSE NEIGHBOUR: 'it returns false'. Refute it at one input. -/
def machineNumbersWrong : ChangeSpec := { name := "machineNumbers", fn := fun _ => fun
  | [d1, d2, d3] => { results := [.lit (.bool false)], args := [d1, d2, d3] }
  | _ => none }
def MachineNumbersWrongFalsely : Prop := machineNumbersRow.holds Tryz.pinned (OpenSpec.ofChange machineNumbersWrong)

/- THE SECOND FORM. 'bulk': how many values and letters a reading holds, each counted each time it is reached (what is shared counts as often as it is met; a slice's spare places count too). A statement '..UptoSaid' is the law's where the arguments, and the package variables that the reading takes, are together of bulk at most 1048576: NARROWER than '..Said'. Prove '..Said' where nothing that the law and all that it calls make is longer than what came in: it says more and counts as full. Else prove '..UptoSaid'. A law counts once. -/
mutual
def uptoBulk {H : Type} : DataW H → Nat
  | .lit (.string bytes) => bytes.length + 1
  | .lit _ => 1
  | .nil => 1
  | .ptr d => uptoBulk d + 1
  | .slice elems spare => uptoBulkAll elems + uptoBulkAll spare + 1
  | .agg parts => uptoBulkAll parts + 1
  | .iface _ d => uptoBulk d + 1
  | .map entries => uptoBulkEntries entries + 1
  | .held _ => 1
def uptoBulkAll {H : Type} : List (DataW H) → Nat
  | [] => 0
  | d :: r => uptoBulk d + uptoBulkAll r
def uptoBulkEntries {H : Type} : List (Lit × DataW H) → Nat
  | [] => 0
  | x :: r => uptoBulkEntry x + uptoBulkEntries r
def uptoBulkEntry {H : Type} : Lit × DataW H → Nat
  | (.string bytes, d) => bytes.length + uptoBulk d + 1
  | (_, d) => uptoBulk d + 1
 end
def uptoSmall : (H : Type) → List (DataW H) → Bool := fun _ ds => decide (uptoBulkAll ds ≤ 1048576)
def OpenSpec.upto (s : _root_.Go.ChangeSpec) : _root_.Go.OpenSpec := { _root_.Go.OpenSpec.ofChange s with cond := some uptoSmall }

/-- 'tandemlaw15.HartRight', WHERE WHAT IT READS IS OF BULK AT MOST 1048576: true; the input reads as it did. -/
def hartRightUptoRow : OpenClaim := { program := "ytplcfdnfeclpmaagreatdoor", sum := "8d1c836edabfccc4d2d237cb92c0627e6fd112dfaa95a20af3859b9717036979", func := "tandem/tandemlaw15.HartRight", spec := "hartRight", named := ["tandem/decode.branches", "tandem/decode.loads", "tandem/decode.stores", "tandem/decode.fences", "tandem/decode.numbers", "tandem/decode.sums", "tandem/decode.products", "tandem/decode.others", "tandem/decode.wordSums", "tandem/decode.wordProducts", "tandem/decode.wordOthers", "tandem/decode.registers"], apart := false, laid := [("tandem/decode.branches", laid_tandem_decode_branches), ("tandem/decode.loads", laid_tandem_decode_loads), ("tandem/decode.stores", laid_tandem_decode_stores), ("tandem/decode.numbers", laid_tandem_decode_numbers), ("tandem/decode.sums", laid_tandem_decode_sums), ("tandem/decode.products", laid_tandem_decode_products), ("tandem/decode.others", laid_tandem_decode_others), ("tandem/decode.wordSums", laid_tandem_decode_wordSums), ("tandem/decode.wordProducts", laid_tandem_decode_wordProducts), ("tandem/decode.wordOthers", laid_tandem_decode_wordOthers), ("tandem/decode.fences", laid_tandem_decode_fences), ("tandem/decode.registers", laid_tandem_decode_registers)], narrowed := true }
def HartRightUptoSaid : Prop := hartRightUptoRow.holds Tryz.pinned (OpenSpec.upto hartRightSpec)

/-- 'tandemlaw16.MachineOn', WHERE WHAT IT READS IS OF BULK AT MOST 1048576: true; the input reads as it did. -/
def machineOnUptoRow : OpenClaim := { program := "ytplcfdnfeclpmaagreatdoor", sum := "8d1c836edabfccc4d2d237cb92c0627e6fd112dfaa95a20af3859b9717036979", func := "tandem/tandemlaw16.MachineOn", spec := "machineOn", named := ["tandem/decode.branches", "tandem/decode.loads", "tandem/decode.stores", "tandem/decode.fences", "tandem/decode.numbers", "tandem/decode.sums", "tandem/decode.products", "tandem/decode.others", "tandem/decode.wordSums", "tandem/decode.wordProducts", "tandem/decode.wordOthers", "tandem/decode.registers"], apart := false, laid := [("tandem/decode.branches", laid_tandem_decode_branches), ("tandem/decode.loads", laid_tandem_decode_loads), ("tandem/decode.stores", laid_tandem_decode_stores), ("tandem/decode.numbers", laid_tandem_decode_numbers), ("tandem/decode.sums", laid_tandem_decode_sums), ("tandem/decode.products", laid_tandem_decode_products), ("tandem/decode.others", laid_tandem_decode_others), ("tandem/decode.wordSums", laid_tandem_decode_wordSums), ("tandem/decode.wordProducts", laid_tandem_decode_wordProducts), ("tandem/decode.wordOthers", laid_tandem_decode_wordOthers), ("tandem/decode.fences", laid_tandem_decode_fences), ("tandem/decode.registers", laid_tandem_decode_registers)], narrowed := true }
def MachineOnUptoSaid : Prop := machineOnUptoRow.holds Tryz.pinned (OpenSpec.upto machineOnSpec)

/-- 'tandemlaw16.MachineAhead', WHERE WHAT IT READS IS OF BULK AT MOST 1048576: true; the input reads as it did. -/
def machineAheadUptoRow : OpenClaim := { program := "ytplcfdnfeclpmaagreatdoor", sum := "8d1c836edabfccc4d2d237cb92c0627e6fd112dfaa95a20af3859b9717036979", func := "tandem/tandemlaw16.MachineAhead", spec := "machineAhead", named := ["tandem/decode.branches", "tandem/decode.loads", "tandem/decode.stores", "tandem/decode.fences", "tandem/decode.numbers", "tandem/decode.sums", "tandem/decode.products", "tandem/decode.others", "tandem/decode.wordSums", "tandem/decode.wordProducts", "tandem/decode.wordOthers", "tandem/decode.registers"], apart := false, laid := [("tandem/decode.branches", laid_tandem_decode_branches), ("tandem/decode.loads", laid_tandem_decode_loads), ("tandem/decode.stores", laid_tandem_decode_stores), ("tandem/decode.numbers", laid_tandem_decode_numbers), ("tandem/decode.sums", laid_tandem_decode_sums), ("tandem/decode.products", laid_tandem_decode_products), ("tandem/decode.others", laid_tandem_decode_others), ("tandem/decode.wordSums", laid_tandem_decode_wordSums), ("tandem/decode.wordProducts", laid_tandem_decode_wordProducts), ("tandem/decode.wordOthers", laid_tandem_decode_wordOthers), ("tandem/decode.fences", laid_tandem_decode_fences), ("tandem/decode.registers", laid_tandem_decode_registers)], narrowed := true }
def MachineAheadUptoSaid : Prop := machineAheadUptoRow.holds Tryz.pinned (OpenSpec.upto machineAheadSpec)

/-- 'tandemlaw16.MachineNumbers', WHERE WHAT IT READS IS OF BULK AT MOST 1048576: true; the input reads as it did. -/
def machineNumbersUptoRow : OpenClaim := { program := "ytplcfdnfeclpmaagreatdoor", sum := "8d1c836edabfccc4d2d237cb92c0627e6fd112dfaa95a20af3859b9717036979", func := "tandem/tandemlaw16.MachineNumbers", spec := "machineNumbers", named := ["tandem/decode.branches", "tandem/decode.loads", "tandem/decode.stores", "tandem/decode.fences", "tandem/decode.numbers", "tandem/decode.sums", "tandem/decode.products", "tandem/decode.others", "tandem/decode.wordSums", "tandem/decode.wordProducts", "tandem/decode.wordOthers", "tandem/decode.registers"], apart := false, laid := [("tandem/decode.branches", laid_tandem_decode_branches), ("tandem/decode.loads", laid_tandem_decode_loads), ("tandem/decode.stores", laid_tandem_decode_stores), ("tandem/decode.numbers", laid_tandem_decode_numbers), ("tandem/decode.sums", laid_tandem_decode_sums), ("tandem/decode.products", laid_tandem_decode_products), ("tandem/decode.others", laid_tandem_decode_others), ("tandem/decode.wordSums", laid_tandem_decode_wordSums), ("tandem/decode.wordProducts", laid_tandem_decode_wordProducts), ("tandem/decode.wordOthers", laid_tandem_decode_wordOthers), ("tandem/decode.fences", laid_tandem_decode_fences), ("tandem/decode.registers", laid_tandem_decode_registers)], narrowed := true }
def MachineNumbersUptoSaid : Prop := machineNumbersUptoRow.holds Tryz.pinned (OpenSpec.upto machineNumbersSpec)

end Rows
end Go.Proofs.YtplcfdnfeclpmaaGreatDoor
