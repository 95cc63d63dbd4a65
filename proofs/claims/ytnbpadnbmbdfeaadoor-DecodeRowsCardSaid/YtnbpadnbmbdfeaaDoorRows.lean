/-
  NARROWER THAN 'FOR EVERY INPUT', by the rows' own cells (each row's printed sentence says how): DecodeTells: laid · DecodeRows: laid · DecodeFits: laid · DecodeRegisters: laid · DecodeBranches: laid.
  DERIVED. THE GIVEN ROWS OF THIS SEAT. 5 by the template 'for every input the law returns true; each argument reads behind the call as it read before'; 0 by the template 'total and deterministic' (their statements: YtnbpadnbmbdfeaaDoorTotals.lean).
  GIVEN WITH THE SEED: the statements are not yours to turn. If you find one false, say at which input.
  Laid BY PROGRAM, IN A SANDBOX (cutbox-rows.mjs): the forced cells as the released guide's own fill.sh prints them over the translation 2782b1081593d2c5… (all of the seat's roots in one cut). By AI agents, Wed Nov 11 2026. No macro, syntax, notation, axiom, sorry.
-/
import Derived.Test.YtnbpadnbmbdfeaaDoorChecked
import GoSem.Claim
import GoSem.ClaimJoined
import GoSem.ClaimMapViews
import Derived.JoinedTies
import Derived.KernelRfl
namespace Go.Proofs.YtnbpadnbmbdfeaaDoor
/- THE CELL 'sum', in the pinned program and in every row, IS THE sha256 OF THE DUMP (.gsa) THAT YtnbpadnbmbdfeaaDoorProg.lean LOADS. Nothing in Lean hashes anything: it is a label: what it is worth is what the hold of that sum in a sandbox is worth. -/
noncomputable def Tryd.pinned : Pinned := { name := "ytnbpadnbmbdfeaadoor", sum := "2782b1081593d2c5d8666b1cb859702b8ca05c5d32f1cf485d5e305926177b56", checked := Tryd.checked }
namespace Rows
def none {H : Type} : Left H := { results := [], args := [] }

/- WHAT THE LISTED PACKAGE-LEVEL VARIABLES READ AS WHEN THE CALL BEGINS. Each datum BY PROGRAM (the guide's laid-datum.mjs) off the statement by which the dump's own 'gosem.cut.vars' lays the variable. In a bare row this is a premise. The card (YtnbpadnbmbdfeaaDoorCards.lean) ties it to the program's text. -/
def laid_tandem_decode_branches {H : Type} : DataW H := .agg [.lit (.int .i64 5), .lit (.int .i64 6), .lit (.int .i64 0), .lit (.int .i64 0), .lit (.int .i64 7), .lit (.int .i64 8), .lit (.int .i64 9), .lit (.int .i64 10)]
def laid_tandem_decode_loads {H : Type} : DataW H := .agg [.lit (.int .i64 11), .lit (.int .i64 12), .lit (.int .i64 13), .lit (.int .i64 14), .lit (.int .i64 15), .lit (.int .i64 16), .lit (.int .i64 17), .lit (.int .i64 0)]
def laid_tandem_decode_stores {H : Type} : DataW H := .agg [.lit (.int .i64 18), .lit (.int .i64 19), .lit (.int .i64 20), .lit (.int .i64 21), .lit (.int .i64 0), .lit (.int .i64 0), .lit (.int .i64 0), .lit (.int .i64 0)]
def laid_tandem_decode_numbers {H : Type} : DataW H := .agg [.lit (.int .i64 22), .lit (.int .i64 0), .lit (.int .i64 23), .lit (.int .i64 24), .lit (.int .i64 25), .lit (.int .i64 0), .lit (.int .i64 26), .lit (.int .i64 27)]
def laid_tandem_decode_sums {H : Type} : DataW H := .agg [.lit (.int .i64 31), .lit (.int .i64 33), .lit (.int .i64 34), .lit (.int .i64 35), .lit (.int .i64 36), .lit (.int .i64 37), .lit (.int .i64 39), .lit (.int .i64 40)]
def laid_tandem_decode_products {H : Type} : DataW H := .agg [.lit (.int .i64 60), .lit (.int .i64 61), .lit (.int .i64 62), .lit (.int .i64 63), .lit (.int .i64 64), .lit (.int .i64 65), .lit (.int .i64 66), .lit (.int .i64 67)]
def laid_tandem_decode_others {H : Type} : DataW H := .agg [.lit (.int .i64 32), .lit (.int .i64 0), .lit (.int .i64 0), .lit (.int .i64 0), .lit (.int .i64 0), .lit (.int .i64 38), .lit (.int .i64 0), .lit (.int .i64 0)]
def laid_tandem_decode_wordSums {H : Type} : DataW H := .agg [.lit (.int .i64 45), .lit (.int .i64 47), .lit (.int .i64 0), .lit (.int .i64 0), .lit (.int .i64 0), .lit (.int .i64 48), .lit (.int .i64 0), .lit (.int .i64 0)]
def laid_tandem_decode_wordProducts {H : Type} : DataW H := .agg [.lit (.int .i64 68), .lit (.int .i64 0), .lit (.int .i64 0), .lit (.int .i64 0), .lit (.int .i64 69), .lit (.int .i64 70), .lit (.int .i64 71), .lit (.int .i64 72)]
def laid_tandem_decode_wordOthers {H : Type} : DataW H := .agg [.lit (.int .i64 46), .lit (.int .i64 0), .lit (.int .i64 0), .lit (.int .i64 0), .lit (.int .i64 0), .lit (.int .i64 49), .lit (.int .i64 0), .lit (.int .i64 0)]
def laid_tandem_decode_fences {H : Type} : DataW H := .agg [.lit (.int .i64 50), .lit (.int .i64 51), .lit (.int .i64 0), .lit (.int .i64 0), .lit (.int .i64 0), .lit (.int .i64 0), .lit (.int .i64 0), .lit (.int .i64 0)]
def laid_tandem_decode_registers {H : Type} : DataW H := .agg [.lit (.int .i64 0), .lit (.int .i64 54), .lit (.int .i64 55), .lit (.int .i64 56), .lit (.int .i64 0), .lit (.int .i64 57), .lit (.int .i64 58), .lit (.int .i64 59)]

/-- 'tandemlaw06.DecodeTells': WHATEVER THE INPUT: true; the input reads as it did. -/
def decodeTellsSpec : ChangeSpec := { name := "decodeTells", fn := fun _ => fun
  | [d] => { results := [.lit (.bool true)], args := [d] }
  | _ => none }
def decodeTellsRow : OpenClaim := { program := "ytnbpadnbmbdfeaadoor", sum := "2782b1081593d2c5d8666b1cb859702b8ca05c5d32f1cf485d5e305926177b56", func := "tandem/tandemlaw06.DecodeTells", spec := "decodeTells", named := ["tandem/decode.branches", "tandem/decode.loads", "tandem/decode.stores", "tandem/decode.fences", "tandem/decode.numbers", "tandem/decode.sums", "tandem/decode.products", "tandem/decode.others", "tandem/decode.wordSums", "tandem/decode.wordProducts", "tandem/decode.wordOthers", "tandem/decode.registers"], apart := false, laid := [("tandem/decode.branches", laid_tandem_decode_branches), ("tandem/decode.loads", laid_tandem_decode_loads), ("tandem/decode.stores", laid_tandem_decode_stores), ("tandem/decode.numbers", laid_tandem_decode_numbers), ("tandem/decode.sums", laid_tandem_decode_sums), ("tandem/decode.products", laid_tandem_decode_products), ("tandem/decode.others", laid_tandem_decode_others), ("tandem/decode.wordSums", laid_tandem_decode_wordSums), ("tandem/decode.wordProducts", laid_tandem_decode_wordProducts), ("tandem/decode.wordOthers", laid_tandem_decode_wordOthers), ("tandem/decode.fences", laid_tandem_decode_fences), ("tandem/decode.registers", laid_tandem_decode_registers)] }
def DecodeTellsSaid : Prop := decodeTellsRow.holds Tryd.pinned (OpenSpec.ofChange decodeTellsSpec)

/-- ITS FALSE NEIGHBOUR: 'it returns false'. Refute it at one input. -/
def decodeTellsWrong : ChangeSpec := { name := "decodeTells", fn := fun _ => fun
  | [d] => { results := [.lit (.bool false)], args := [d] }
  | _ => none }
def DecodeTellsWrongFalsely : Prop := decodeTellsRow.holds Tryd.pinned (OpenSpec.ofChange decodeTellsWrong)

/-- 'tandemlaw06.DecodeRows': WHATEVER THE INPUT: true; the input reads as it did. -/
def decodeRowsSpec : ChangeSpec := { name := "decodeRows", fn := fun _ => fun
  | [d] => { results := [.lit (.bool true)], args := [d] }
  | _ => none }
def decodeRowsRow : OpenClaim := { program := "ytnbpadnbmbdfeaadoor", sum := "2782b1081593d2c5d8666b1cb859702b8ca05c5d32f1cf485d5e305926177b56", func := "tandem/tandemlaw06.DecodeRows", spec := "decodeRows", named := ["tandem/decode.branches", "tandem/decode.loads", "tandem/decode.stores", "tandem/decode.fences", "tandem/decode.numbers", "tandem/decode.sums", "tandem/decode.products", "tandem/decode.others", "tandem/decode.wordSums", "tandem/decode.wordProducts", "tandem/decode.wordOthers", "tandem/decode.registers"], apart := false, laid := [("tandem/decode.branches", laid_tandem_decode_branches), ("tandem/decode.loads", laid_tandem_decode_loads), ("tandem/decode.stores", laid_tandem_decode_stores), ("tandem/decode.numbers", laid_tandem_decode_numbers), ("tandem/decode.sums", laid_tandem_decode_sums), ("tandem/decode.products", laid_tandem_decode_products), ("tandem/decode.others", laid_tandem_decode_others), ("tandem/decode.wordSums", laid_tandem_decode_wordSums), ("tandem/decode.wordProducts", laid_tandem_decode_wordProducts), ("tandem/decode.wordOthers", laid_tandem_decode_wordOthers), ("tandem/decode.fences", laid_tandem_decode_fences), ("tandem/decode.registers", laid_tandem_decode_registers)] }
def DecodeRowsSaid : Prop := decodeRowsRow.holds Tryd.pinned (OpenSpec.ofChange decodeRowsSpec)

/-- ITS FALSE NEIGHBOUR: 'it returns false'. Refute it at one input. -/
def decodeRowsWrong : ChangeSpec := { name := "decodeRows", fn := fun _ => fun
  | [d] => { results := [.lit (.bool false)], args := [d] }
  | _ => none }
def DecodeRowsWrongFalsely : Prop := decodeRowsRow.holds Tryd.pinned (OpenSpec.ofChange decodeRowsWrong)

/-- 'tandemlaw06.DecodeFits': WHATEVER THE INPUT: true; the input reads as it did. -/
def decodeFitsSpec : ChangeSpec := { name := "decodeFits", fn := fun _ => fun
  | [d] => { results := [.lit (.bool true)], args := [d] }
  | _ => none }
def decodeFitsRow : OpenClaim := { program := "ytnbpadnbmbdfeaadoor", sum := "2782b1081593d2c5d8666b1cb859702b8ca05c5d32f1cf485d5e305926177b56", func := "tandem/tandemlaw06.DecodeFits", spec := "decodeFits", named := ["tandem/decode.branches", "tandem/decode.loads", "tandem/decode.stores", "tandem/decode.fences", "tandem/decode.numbers", "tandem/decode.sums", "tandem/decode.products", "tandem/decode.others", "tandem/decode.wordSums", "tandem/decode.wordProducts", "tandem/decode.wordOthers", "tandem/decode.registers"], apart := false, laid := [("tandem/decode.branches", laid_tandem_decode_branches), ("tandem/decode.loads", laid_tandem_decode_loads), ("tandem/decode.stores", laid_tandem_decode_stores), ("tandem/decode.numbers", laid_tandem_decode_numbers), ("tandem/decode.sums", laid_tandem_decode_sums), ("tandem/decode.products", laid_tandem_decode_products), ("tandem/decode.others", laid_tandem_decode_others), ("tandem/decode.wordSums", laid_tandem_decode_wordSums), ("tandem/decode.wordProducts", laid_tandem_decode_wordProducts), ("tandem/decode.wordOthers", laid_tandem_decode_wordOthers), ("tandem/decode.fences", laid_tandem_decode_fences), ("tandem/decode.registers", laid_tandem_decode_registers)] }
def DecodeFitsSaid : Prop := decodeFitsRow.holds Tryd.pinned (OpenSpec.ofChange decodeFitsSpec)

/-- ITS FALSE NEIGHBOUR: 'it returns false'. Refute it at one input. -/
def decodeFitsWrong : ChangeSpec := { name := "decodeFits", fn := fun _ => fun
  | [d] => { results := [.lit (.bool false)], args := [d] }
  | _ => none }
def DecodeFitsWrongFalsely : Prop := decodeFitsRow.holds Tryd.pinned (OpenSpec.ofChange decodeFitsWrong)

/-- 'tandemlaw06.DecodeRegisters': WHATEVER THE INPUT: true; the input reads as it did. -/
def decodeRegistersSpec : ChangeSpec := { name := "decodeRegisters", fn := fun _ => fun
  | [d1, d2] => { results := [.lit (.bool true)], args := [d1, d2] }
  | _ => none }
def decodeRegistersRow : OpenClaim := { program := "ytnbpadnbmbdfeaadoor", sum := "2782b1081593d2c5d8666b1cb859702b8ca05c5d32f1cf485d5e305926177b56", func := "tandem/tandemlaw06.DecodeRegisters", spec := "decodeRegisters", named := ["tandem/decode.branches", "tandem/decode.loads", "tandem/decode.stores", "tandem/decode.fences", "tandem/decode.numbers", "tandem/decode.sums", "tandem/decode.products", "tandem/decode.others", "tandem/decode.wordSums", "tandem/decode.wordProducts", "tandem/decode.wordOthers", "tandem/decode.registers"], apart := false, laid := [("tandem/decode.branches", laid_tandem_decode_branches), ("tandem/decode.loads", laid_tandem_decode_loads), ("tandem/decode.stores", laid_tandem_decode_stores), ("tandem/decode.numbers", laid_tandem_decode_numbers), ("tandem/decode.sums", laid_tandem_decode_sums), ("tandem/decode.products", laid_tandem_decode_products), ("tandem/decode.others", laid_tandem_decode_others), ("tandem/decode.wordSums", laid_tandem_decode_wordSums), ("tandem/decode.wordProducts", laid_tandem_decode_wordProducts), ("tandem/decode.wordOthers", laid_tandem_decode_wordOthers), ("tandem/decode.fences", laid_tandem_decode_fences), ("tandem/decode.registers", laid_tandem_decode_registers)] }
def DecodeRegistersSaid : Prop := decodeRegistersRow.holds Tryd.pinned (OpenSpec.ofChange decodeRegistersSpec)

/-- ITS FALSE NEIGHBOUR: 'it returns false'. Refute it at one input. -/
def decodeRegistersWrong : ChangeSpec := { name := "decodeRegisters", fn := fun _ => fun
  | [d1, d2] => { results := [.lit (.bool false)], args := [d1, d2] }
  | _ => none }
def DecodeRegistersWrongFalsely : Prop := decodeRegistersRow.holds Tryd.pinned (OpenSpec.ofChange decodeRegistersWrong)

/-- 'tandemlaw06.DecodeBranches': WHATEVER THE INPUT: true; the input reads as it did. -/
def decodeBranchesSpec : ChangeSpec := { name := "decodeBranches", fn := fun _ => fun
  | [d1, d2, d3] => { results := [.lit (.bool true)], args := [d1, d2, d3] }
  | _ => none }
def decodeBranchesRow : OpenClaim := { program := "ytnbpadnbmbdfeaadoor", sum := "2782b1081593d2c5d8666b1cb859702b8ca05c5d32f1cf485d5e305926177b56", func := "tandem/tandemlaw06.DecodeBranches", spec := "decodeBranches", named := ["tandem/decode.branches", "tandem/decode.loads", "tandem/decode.stores", "tandem/decode.fences", "tandem/decode.numbers", "tandem/decode.sums", "tandem/decode.products", "tandem/decode.others", "tandem/decode.wordSums", "tandem/decode.wordProducts", "tandem/decode.wordOthers", "tandem/decode.registers"], apart := false, laid := [("tandem/decode.branches", laid_tandem_decode_branches), ("tandem/decode.loads", laid_tandem_decode_loads), ("tandem/decode.stores", laid_tandem_decode_stores), ("tandem/decode.numbers", laid_tandem_decode_numbers), ("tandem/decode.sums", laid_tandem_decode_sums), ("tandem/decode.products", laid_tandem_decode_products), ("tandem/decode.others", laid_tandem_decode_others), ("tandem/decode.wordSums", laid_tandem_decode_wordSums), ("tandem/decode.wordProducts", laid_tandem_decode_wordProducts), ("tandem/decode.wordOthers", laid_tandem_decode_wordOthers), ("tandem/decode.fences", laid_tandem_decode_fences), ("tandem/decode.registers", laid_tandem_decode_registers)] }
def DecodeBranchesSaid : Prop := decodeBranchesRow.holds Tryd.pinned (OpenSpec.ofChange decodeBranchesSpec)

/-- ITS FALSE NEIGHBOUR: 'it returns false'. Refute it at one input. -/
def decodeBranchesWrong : ChangeSpec := { name := "decodeBranches", fn := fun _ => fun
  | [d1, d2, d3] => { results := [.lit (.bool false)], args := [d1, d2, d3] }
  | _ => none }
def DecodeBranchesWrongFalsely : Prop := decodeBranchesRow.holds Tryd.pinned (OpenSpec.ofChange decodeBranchesWrong)

/- THE SECOND FORM. 'bulk': how many values and letters a reading holds, each counted each time it is reached (what is shared counts as often as it is met; a slice's spare places count too). A statement '..UptoSaid' is the law's where the arguments, and the package variables that the reading takes, are together of bulk at most 1048576: NARROWER than '..Said'. Prove '..Said' where nothing that the law and all that it calls make is longer than what came in: it says more and counts as full. Else prove '..UptoSaid'. A law counts once. -/
mutual
def uptoBulk {H : Type} : DataW H → Nat
  | .lit (.string bytes) => bytes.length + 1
  | .lit _ => 1
  | .nil => 1
  | .ptr d => uptoBulk d + 1
  | .slice elems spare => uptoBulkAll elems + uptoBulkAll spare + 1
  | .agg parts => uptoBulkAll parts + 1
  | .iface _ d => uptoBulk d + 1
  | .map entries => uptoBulkEntries entries + 1
  | .held _ => 1
def uptoBulkAll {H : Type} : List (DataW H) → Nat
  | [] => 0
  | d :: r => uptoBulk d + uptoBulkAll r
def uptoBulkEntries {H : Type} : List (Lit × DataW H) → Nat
  | [] => 0
  | x :: r => uptoBulkEntry x + uptoBulkEntries r
def uptoBulkEntry {H : Type} : Lit × DataW H → Nat
  | (.string bytes, d) => bytes.length + uptoBulk d + 1
  | (_, d) => uptoBulk d + 1
 end
def uptoSmall : (H : Type) → List (DataW H) → Bool := fun _ ds => decide (uptoBulkAll ds ≤ 1048576)
def OpenSpec.upto (s : _root_.Go.ChangeSpec) : _root_.Go.OpenSpec := { _root_.Go.OpenSpec.ofChange s with cond := some uptoSmall }

/-- 'tandemlaw06.DecodeTells', WHERE WHAT IT READS IS OF BULK AT MOST 1048576: true; the input reads as it did. -/
def decodeTellsUptoRow : OpenClaim := { program := "ytnbpadnbmbdfeaadoor", sum := "2782b1081593d2c5d8666b1cb859702b8ca05c5d32f1cf485d5e305926177b56", func := "tandem/tandemlaw06.DecodeTells", spec := "decodeTells", named := ["tandem/decode.branches", "tandem/decode.loads", "tandem/decode.stores", "tandem/decode.fences", "tandem/decode.numbers", "tandem/decode.sums", "tandem/decode.products", "tandem/decode.others", "tandem/decode.wordSums", "tandem/decode.wordProducts", "tandem/decode.wordOthers", "tandem/decode.registers"], apart := false, laid := [("tandem/decode.branches", laid_tandem_decode_branches), ("tandem/decode.loads", laid_tandem_decode_loads), ("tandem/decode.stores", laid_tandem_decode_stores), ("tandem/decode.numbers", laid_tandem_decode_numbers), ("tandem/decode.sums", laid_tandem_decode_sums), ("tandem/decode.products", laid_tandem_decode_products), ("tandem/decode.others", laid_tandem_decode_others), ("tandem/decode.wordSums", laid_tandem_decode_wordSums), ("tandem/decode.wordProducts", laid_tandem_decode_wordProducts), ("tandem/decode.wordOthers", laid_tandem_decode_wordOthers), ("tandem/decode.fences", laid_tandem_decode_fences), ("tandem/decode.registers", laid_tandem_decode_registers)], narrowed := true }
def DecodeTellsUptoSaid : Prop := decodeTellsUptoRow.holds Tryd.pinned (OpenSpec.upto decodeTellsSpec)

/-- 'tandemlaw06.DecodeRows', WHERE WHAT IT READS IS OF BULK AT MOST 1048576: true; the input reads as it did. -/
def decodeRowsUptoRow : OpenClaim := { program := "ytnbpadnbmbdfeaadoor", sum := "2782b1081593d2c5d8666b1cb859702b8ca05c5d32f1cf485d5e305926177b56", func := "tandem/tandemlaw06.DecodeRows", spec := "decodeRows", named := ["tandem/decode.branches", "tandem/decode.loads", "tandem/decode.stores", "tandem/decode.fences", "tandem/decode.numbers", "tandem/decode.sums", "tandem/decode.products", "tandem/decode.others", "tandem/decode.wordSums", "tandem/decode.wordProducts", "tandem/decode.wordOthers", "tandem/decode.registers"], apart := false, laid := [("tandem/decode.branches", laid_tandem_decode_branches), ("tandem/decode.loads", laid_tandem_decode_loads), ("tandem/decode.stores", laid_tandem_decode_stores), ("tandem/decode.numbers", laid_tandem_decode_numbers), ("tandem/decode.sums", laid_tandem_decode_sums), ("tandem/decode.products", laid_tandem_decode_products), ("tandem/decode.others", laid_tandem_decode_others), ("tandem/decode.wordSums", laid_tandem_decode_wordSums), ("tandem/decode.wordProducts", laid_tandem_decode_wordProducts), ("tandem/decode.wordOthers", laid_tandem_decode_wordOthers), ("tandem/decode.fences", laid_tandem_decode_fences), ("tandem/decode.registers", laid_tandem_decode_registers)], narrowed := true }
def DecodeRowsUptoSaid : Prop := decodeRowsUptoRow.holds Tryd.pinned (OpenSpec.upto decodeRowsSpec)

/-- 'tandemlaw06.DecodeFits', WHERE WHAT IT READS IS OF BULK AT MOST 1048576: true; the input reads as it did. -/
def decodeFitsUptoRow : OpenClaim := { program := "ytnbpadnbmbdfeaadoor", sum := "2782b1081593d2c5d8666b1cb859702b8ca05c5d32f1cf485d5e305926177b56", func := "tandem/tandemlaw06.DecodeFits", spec := "decodeFits", named := ["tandem/decode.branches", "tandem/decode.loads", "tandem/decode.stores", "tandem/decode.fences", "tandem/decode.numbers", "tandem/decode.sums", "tandem/decode.products", "tandem/decode.others", "tandem/decode.wordSums", "tandem/decode.wordProducts", "tandem/decode.wordOthers", "tandem/decode.registers"], apart := false, laid := [("tandem/decode.branches", laid_tandem_decode_branches), ("tandem/decode.loads", laid_tandem_decode_loads), ("tandem/decode.stores", laid_tandem_decode_stores), ("tandem/decode.numbers", laid_tandem_decode_numbers), ("tandem/decode.sums", laid_tandem_decode_sums), ("tandem/decode.products", laid_tandem_decode_products), ("tandem/decode.others", laid_tandem_decode_others), ("tandem/decode.wordSums", laid_tandem_decode_wordSums), ("tandem/decode.wordProducts", laid_tandem_decode_wordProducts), ("tandem/decode.wordOthers", laid_tandem_decode_wordOthers), ("tandem/decode.fences", laid_tandem_decode_fences), ("tandem/decode.registers", laid_tandem_decode_registers)], narrowed := true }
def DecodeFitsUptoSaid : Prop := decodeFitsUptoRow.holds Tryd.pinned (OpenSpec.upto decodeFitsSpec)

/-- 'tandemlaw06.DecodeRegisters', WHERE WHAT IT READS IS OF BULK AT MOST 1048576: true; the input reads as it did. -/
def decodeRegistersUptoRow : OpenClaim := { program := "ytnbpadnbmbdfeaadoor", sum := "2782b1081593d2c5d8666b1cb859702b8ca05c5d32f1cf485d5e305926177b56", func := "tandem/tandemlaw06.DecodeRegisters", spec := "decodeRegisters", named := ["tandem/decode.branches", "tandem/decode.loads", "tandem/decode.stores", "tandem/decode.fences", "tandem/decode.numbers", "tandem/decode.sums", "tandem/decode.products", "tandem/decode.others", "tandem/decode.wordSums", "tandem/decode.wordProducts", "tandem/decode.wordOthers", "tandem/decode.registers"], apart := false, laid := [("tandem/decode.branches", laid_tandem_decode_branches), ("tandem/decode.loads", laid_tandem_decode_loads), ("tandem/decode.stores", laid_tandem_decode_stores), ("tandem/decode.numbers", laid_tandem_decode_numbers), ("tandem/decode.sums", laid_tandem_decode_sums), ("tandem/decode.products", laid_tandem_decode_products), ("tandem/decode.others", laid_tandem_decode_others), ("tandem/decode.wordSums", laid_tandem_decode_wordSums), ("tandem/decode.wordProducts", laid_tandem_decode_wordProducts), ("tandem/decode.wordOthers", laid_tandem_decode_wordOthers), ("tandem/decode.fences", laid_tandem_decode_fences), ("tandem/decode.registers", laid_tandem_decode_registers)], narrowed := true }
def DecodeRegistersUptoSaid : Prop := decodeRegistersUptoRow.holds Tryd.pinned (OpenSpec.upto decodeRegistersSpec)

/-- 'tandemlaw06.DecodeBranches', WHERE WHAT IT READS IS OF BULK AT MOST 1048576: true; the input reads as it did. -/
def decodeBranchesUptoRow : OpenClaim := { program := "ytnbpadnbmbdfeaadoor", sum := "2782b1081593d2c5d8666b1cb859702b8ca05c5d32f1cf485d5e305926177b56", func := "tandem/tandemlaw06.DecodeBranches", spec := "decodeBranches", named := ["tandem/decode.branches", "tandem/decode.loads", "tandem/decode.stores", "tandem/decode.fences", "tandem/decode.numbers", "tandem/decode.sums", "tandem/decode.products", "tandem/decode.others", "tandem/decode.wordSums", "tandem/decode.wordProducts", "tandem/decode.wordOthers", "tandem/decode.registers"], apart := false, laid := [("tandem/decode.branches", laid_tandem_decode_branches), ("tandem/decode.loads", laid_tandem_decode_loads), ("tandem/decode.stores", laid_tandem_decode_stores), ("tandem/decode.numbers", laid_tandem_decode_numbers), ("tandem/decode.sums", laid_tandem_decode_sums), ("tandem/decode.products", laid_tandem_decode_products), ("tandem/decode.others", laid_tandem_decode_others), ("tandem/decode.wordSums", laid_tandem_decode_wordSums), ("tandem/decode.wordProducts", laid_tandem_decode_wordProducts), ("tandem/decode.wordOthers", laid_tandem_decode_wordOthers), ("tandem/decode.fences", laid_tandem_decode_fences), ("tandem/decode.registers", laid_tandem_decode_registers)], narrowed := true }
def DecodeBranchesUptoSaid : Prop := decodeBranchesUptoRow.holds Tryd.pinned (OpenSpec.upto decodeBranchesSpec)

end Rows
end Go.Proofs.YtnbpadnbmbdfeaaDoor
