/-
  No cell of these rows narrows 'for every input' (looked for: loops, veiled, ifaces, maps, wideKeys, modest, calm, conditions, laid).
  DERIVED. THE GIVEN ROWS OF THIS SEAT. 7 by the template 'for every input the law returns true; each argument reads behind the call as it read before'; 0 by the template 'total and deterministic' (their statements: YtfkkjgcglmglhaaTotals.lean).
  GIVEN WITH THE SEED: the statements are not yours to turn. If you find one false, say at which input.
  Laid BY PROGRAM, IN A SANDBOX (cutbox-rows.mjs): the forced cells as the released guide's own fill.sh prints them over the translation ae929eeea9de05cd… (all of the seat's roots in one cut). By AI agents, Wed Nov 11 2026. No macro, syntax, notation, axiom, sorry.
-/
import Derived.Test.YtfkkjgcglmglhaaChecked
import GoSem.Claim
import GoSem.ClaimJoined
import GoSem.ClaimMapViews
import Derived.JoinedTies
import Derived.KernelRfl
namespace Go.Proofs.Ytfkkjgcglmglhaa
/- THE CELL 'sum', in the pinned program and in every row, IS THE sha256 OF THE DUMP (.gsa) THAT YtfkkjgcglmglhaaProg.lean LOADS. Nothing in Lean hashes anything: it is a label: what it is worth is what the hold of that sum in a sandbox is worth. -/
noncomputable def Try.pinned : Pinned := { name := "ytfkkjgcglmglhaa", sum := "ae929eeea9de05cd4e750cbfee4adbca502e5a025c67e18b4de698963cc7ecec", checked := Try.checked }
namespace Rows
def none {H : Type} : Left H := { results := [], args := [] }

/-- 'tandemlaw08.AluTells': WHATEVER THE INPUT: true; the input reads as it did. -/
def aluTellsSpec : ChangeSpec := { name := "aluTells", fn := fun _ => fun
  | [d1, d2, d3] => { results := [.lit (.bool true)], args := [d1, d2, d3] }
  | _ => none }
def aluTellsRow : OpenClaim := { program := "ytfkkjgcglmglhaa", sum := "ae929eeea9de05cd4e750cbfee4adbca502e5a025c67e18b4de698963cc7ecec", func := "tandem/tandemlaw08.AluTells", spec := "aluTells", recurses := true, apart := false }
def AluTellsSaid : Prop := aluTellsRow.holds Try.pinned (OpenSpec.ofChange aluTellsSpec)

/-- ITS FALSE NEIGHBOUR: 'it returns false'. Refute it at one input. -/
def aluTellsWrong : ChangeSpec := { name := "aluTells", fn := fun _ => fun
  | [d1, d2, d3] => { results := [.lit (.bool false)], args := [d1, d2, d3] }
  | _ => none }
def AluTellsWrongFalsely : Prop := aluTellsRow.holds Try.pinned (OpenSpec.ofChange aluTellsWrong)

/-- 'tandemlaw08.AluAll': WHATEVER THE INPUT: true; the input reads as it did. -/
def aluAllSpec : ChangeSpec := { name := "aluAll", fn := fun _ => fun
  | [d1, d2] => { results := [.lit (.bool true)], args := [d1, d2] }
  | _ => none }
def aluAllRow : OpenClaim := { program := "ytfkkjgcglmglhaa", sum := "ae929eeea9de05cd4e750cbfee4adbca502e5a025c67e18b4de698963cc7ecec", func := "tandem/tandemlaw08.AluAll", spec := "aluAll", recurses := true, apart := false }
def AluAllSaid : Prop := aluAllRow.holds Try.pinned (OpenSpec.ofChange aluAllSpec)

/-- ITS FALSE NEIGHBOUR: 'it returns false'. Refute it at one input. -/
def aluAllWrong : ChangeSpec := { name := "aluAll", fn := fun _ => fun
  | [d1, d2] => { results := [.lit (.bool false)], args := [d1, d2] }
  | _ => none }
def AluAllWrongFalsely : Prop := aluAllRow.holds Try.pinned (OpenSpec.ofChange aluAllWrong)

/-- 'tandemlaw08.AluDivides': WHATEVER THE INPUT: true; the input reads as it did. -/
def aluDividesSpec : ChangeSpec := { name := "aluDivides", fn := fun _ => fun
  | [d1, d2] => { results := [.lit (.bool true)], args := [d1, d2] }
  | _ => none }
def aluDividesRow : OpenClaim := { program := "ytfkkjgcglmglhaa", sum := "ae929eeea9de05cd4e750cbfee4adbca502e5a025c67e18b4de698963cc7ecec", func := "tandem/tandemlaw08.AluDivides", spec := "aluDivides", apart := false }
def AluDividesSaid : Prop := aluDividesRow.holds Try.pinned (OpenSpec.ofChange aluDividesSpec)

/-- ITS FALSE NEIGHBOUR: 'it returns false'. Refute it at one input. -/
def aluDividesWrong : ChangeSpec := { name := "aluDivides", fn := fun _ => fun
  | [d1, d2] => { results := [.lit (.bool false)], args := [d1, d2] }
  | _ => none }
def AluDividesWrongFalsely : Prop := aluDividesRow.holds Try.pinned (OpenSpec.ofChange aluDividesWrong)

/-- 'tandemlaw08.AluUpper': WHATEVER THE INPUT: true; the input reads as it did. -/
def aluUpperSpec : ChangeSpec := { name := "aluUpper", fn := fun _ => fun
  | [d1, d2] => { results := [.lit (.bool true)], args := [d1, d2] }
  | _ => none }
def aluUpperRow : OpenClaim := { program := "ytfkkjgcglmglhaa", sum := "ae929eeea9de05cd4e750cbfee4adbca502e5a025c67e18b4de698963cc7ecec", func := "tandem/tandemlaw08.AluUpper", spec := "aluUpper", apart := false }
def AluUpperSaid : Prop := aluUpperRow.holds Try.pinned (OpenSpec.ofChange aluUpperSpec)

/-- ITS FALSE NEIGHBOUR: 'it returns false'. Refute it at one input. -/
def aluUpperWrong : ChangeSpec := { name := "aluUpper", fn := fun _ => fun
  | [d1, d2] => { results := [.lit (.bool false)], args := [d1, d2] }
  | _ => none }
def AluUpperWrongFalsely : Prop := aluUpperRow.holds Try.pinned (OpenSpec.ofChange aluUpperWrong)

/-- 'tandemlaw08.AluWords': WHATEVER THE INPUT: true; the input reads as it did. -/
def aluWordsSpec : ChangeSpec := { name := "aluWords", fn := fun _ => fun
  | [d1, d2, d3, d4, d5] => { results := [.lit (.bool true)], args := [d1, d2, d3, d4, d5] }
  | _ => none }
def aluWordsRow : OpenClaim := { program := "ytfkkjgcglmglhaa", sum := "ae929eeea9de05cd4e750cbfee4adbca502e5a025c67e18b4de698963cc7ecec", func := "tandem/tandemlaw08.AluWords", spec := "aluWords", apart := false }
def AluWordsSaid : Prop := aluWordsRow.holds Try.pinned (OpenSpec.ofChange aluWordsSpec)

/-- ITS FALSE NEIGHBOUR: 'it returns false'. Refute it at one input. -/
def aluWordsWrong : ChangeSpec := { name := "aluWords", fn := fun _ => fun
  | [d1, d2, d3, d4, d5] => { results := [.lit (.bool false)], args := [d1, d2, d3, d4, d5] }
  | _ => none }
def AluWordsWrongFalsely : Prop := aluWordsRow.holds Try.pinned (OpenSpec.ofChange aluWordsWrong)

/-- 'tandemlaw08.AluSides': WHATEVER THE INPUT: true; the input reads as it did. -/
def aluSidesSpec : ChangeSpec := { name := "aluSides", fn := fun _ => fun
  | [d1, d2] => { results := [.lit (.bool true)], args := [d1, d2] }
  | _ => none }
def aluSidesRow : OpenClaim := { program := "ytfkkjgcglmglhaa", sum := "ae929eeea9de05cd4e750cbfee4adbca502e5a025c67e18b4de698963cc7ecec", func := "tandem/tandemlaw08.AluSides", spec := "aluSides", apart := false }
def AluSidesSaid : Prop := aluSidesRow.holds Try.pinned (OpenSpec.ofChange aluSidesSpec)

/-- ITS FALSE NEIGHBOUR: 'it returns false'. Refute it at one input. -/
def aluSidesWrong : ChangeSpec := { name := "aluSides", fn := fun _ => fun
  | [d1, d2] => { results := [.lit (.bool false)], args := [d1, d2] }
  | _ => none }
def AluSidesWrongFalsely : Prop := aluSidesRow.holds Try.pinned (OpenSpec.ofChange aluSidesWrong)

/-- 'tandemlaw08.AluReckons': WHATEVER THE INPUT: true; the input reads as it did. -/
def aluReckonsSpec : ChangeSpec := { name := "aluReckons", fn := fun _ => fun
  | [d1, d2] => { results := [.lit (.bool true)], args := [d1, d2] }
  | _ => none }
def aluReckonsRow : OpenClaim := { program := "ytfkkjgcglmglhaa", sum := "ae929eeea9de05cd4e750cbfee4adbca502e5a025c67e18b4de698963cc7ecec", func := "tandem/tandemlaw08.AluReckons", spec := "aluReckons", apart := false }
def AluReckonsSaid : Prop := aluReckonsRow.holds Try.pinned (OpenSpec.ofChange aluReckonsSpec)

/-- ITS FALSE NEIGHBOUR: 'it returns false'. Refute it at one input. -/
def aluReckonsWrong : ChangeSpec := { name := "aluReckons", fn := fun _ => fun
  | [d1, d2] => { results := [.lit (.bool false)], args := [d1, d2] }
  | _ => none }
def AluReckonsWrongFalsely : Prop := aluReckonsRow.holds Try.pinned (OpenSpec.ofChange aluReckonsWrong)

/- THE SECOND FORM. 'bulk': how many values and letters a reading holds, each counted each time it is reached (what is shared counts as often as it is met; a slice's spare places count too). A statement '..UptoSaid' is the law's where the arguments, and the package variables that the reading takes, are together of bulk at most 1048576: NARROWER than '..Said'. Prove '..Said' where nothing that the law and all that it calls make is longer than what came in: it says more and counts as full. Else prove '..UptoSaid'. A law counts once. -/
mutual
def uptoBulk {H : Type} : DataW H → Nat
  | .lit (.string bytes) => bytes.length + 1
  | .lit _ => 1
  | .nil => 1
  | .ptr d => uptoBulk d + 1
  | .slice elems spare => uptoBulkAll elems + uptoBulkAll spare + 1
  | .agg parts => uptoBulkAll parts + 1
  | .iface _ d => uptoBulk d + 1
  | .map entries => uptoBulkEntries entries + 1
  | .held _ => 1
def uptoBulkAll {H : Type} : List (DataW H) → Nat
  | [] => 0
  | d :: r => uptoBulk d + uptoBulkAll r
def uptoBulkEntries {H : Type} : List (Lit × DataW H) → Nat
  | [] => 0
  | x :: r => uptoBulkEntry x + uptoBulkEntries r
def uptoBulkEntry {H : Type} : Lit × DataW H → Nat
  | (.string bytes, d) => bytes.length + uptoBulk d + 1
  | (_, d) => uptoBulk d + 1
 end
def uptoSmall : (H : Type) → List (DataW H) → Bool := fun _ ds => decide (uptoBulkAll ds ≤ 1048576)
def OpenSpec.upto (s : _root_.Go.ChangeSpec) : _root_.Go.OpenSpec := { _root_.Go.OpenSpec.ofChange s with cond := some uptoSmall }

/-- 'tandemlaw08.AluTells', WHERE WHAT IT READS IS OF BULK AT MOST 1048576: true; the input reads as it did. -/
def aluTellsUptoRow : OpenClaim := { program := "ytfkkjgcglmglhaa", sum := "ae929eeea9de05cd4e750cbfee4adbca502e5a025c67e18b4de698963cc7ecec", func := "tandem/tandemlaw08.AluTells", spec := "aluTells", recurses := true, apart := false, narrowed := true }
def AluTellsUptoSaid : Prop := aluTellsUptoRow.holds Try.pinned (OpenSpec.upto aluTellsSpec)

/-- 'tandemlaw08.AluAll', WHERE WHAT IT READS IS OF BULK AT MOST 1048576: true; the input reads as it did. -/
def aluAllUptoRow : OpenClaim := { program := "ytfkkjgcglmglhaa", sum := "ae929eeea9de05cd4e750cbfee4adbca502e5a025c67e18b4de698963cc7ecec", func := "tandem/tandemlaw08.AluAll", spec := "aluAll", recurses := true, apart := false, narrowed := true }
def AluAllUptoSaid : Prop := aluAllUptoRow.holds Try.pinned (OpenSpec.upto aluAllSpec)

/-- 'tandemlaw08.AluDivides', WHERE WHAT IT READS IS OF BULK AT MOST 1048576: true; the input reads as it did. -/
def aluDividesUptoRow : OpenClaim := { program := "ytfkkjgcglmglhaa", sum := "ae929eeea9de05cd4e750cbfee4adbca502e5a025c67e18b4de698963cc7ecec", func := "tandem/tandemlaw08.AluDivides", spec := "aluDivides", apart := false, narrowed := true }
def AluDividesUptoSaid : Prop := aluDividesUptoRow.holds Try.pinned (OpenSpec.upto aluDividesSpec)

/-- 'tandemlaw08.AluUpper', WHERE WHAT IT READS IS OF BULK AT MOST 1048576: true; the input reads as it did. -/
def aluUpperUptoRow : OpenClaim := { program := "ytfkkjgcglmglhaa", sum := "ae929eeea9de05cd4e750cbfee4adbca502e5a025c67e18b4de698963cc7ecec", func := "tandem/tandemlaw08.AluUpper", spec := "aluUpper", apart := false, narrowed := true }
def AluUpperUptoSaid : Prop := aluUpperUptoRow.holds Try.pinned (OpenSpec.upto aluUpperSpec)

/-- 'tandemlaw08.AluWords', WHERE WHAT IT READS IS OF BULK AT MOST 1048576: true; the input reads as it did. -/
def aluWordsUptoRow : OpenClaim := { program := "ytfkkjgcglmglhaa", sum := "ae929eeea9de05cd4e750cbfee4adbca502e5a025c67e18b4de698963cc7ecec", func := "tandem/tandemlaw08.AluWords", spec := "aluWords", apart := false, narrowed := true }
def AluWordsUptoSaid : Prop := aluWordsUptoRow.holds Try.pinned (OpenSpec.upto aluWordsSpec)

/-- 'tandemlaw08.AluSides', WHERE WHAT IT READS IS OF BULK AT MOST 1048576: true; the input reads as it did. -/
def aluSidesUptoRow : OpenClaim := { program := "ytfkkjgcglmglhaa", sum := "ae929eeea9de05cd4e750cbfee4adbca502e5a025c67e18b4de698963cc7ecec", func := "tandem/tandemlaw08.AluSides", spec := "aluSides", apart := false, narrowed := true }
def AluSidesUptoSaid : Prop := aluSidesUptoRow.holds Try.pinned (OpenSpec.upto aluSidesSpec)

/-- 'tandemlaw08.AluReckons', WHERE WHAT IT READS IS OF BULK AT MOST 1048576: true; the input reads as it did. -/
def aluReckonsUptoRow : OpenClaim := { program := "ytfkkjgcglmglhaa", sum := "ae929eeea9de05cd4e750cbfee4adbca502e5a025c67e18b4de698963cc7ecec", func := "tandem/tandemlaw08.AluReckons", spec := "aluReckons", apart := false, narrowed := true }
def AluReckonsUptoSaid : Prop := aluReckonsUptoRow.holds Try.pinned (OpenSpec.upto aluReckonsSpec)

end Rows
end Go.Proofs.Ytfkkjgcglmglhaa
