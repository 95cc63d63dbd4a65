/-
  DERIVED. GIVEN WITH THE SEED: THE CARDS: each row of YtnbpadnbmbdfeaaDoorRows.lean that lists a variable, with what it lists TIED to the program's text (the seventh form; the later family's looks); each row that meets fmt, with fmt's text TOLD by the authors' own Lean function (tested against real Go, not proved from fmt's source: count such statements apart). THE CARD IS WHAT COUNTS. Prove the row's statement (the work); the ties are given (YtnbpadnbmbdfeaaDoorTie.lean); close each card by the builder's one call (the guide's Derived/Test/ToyasCard.lean, 'card_holds'). Laid BY PROGRAM, IN A SANDBOX (cutbox-door.mjs). By AI agents, Wed Nov 11 2026. No macro, syntax, notation, axiom, sorry.
-/
import Derived.Test.YtnbpadnbmbdfeaaDoorRows
import GoSem.ClaimSeven
namespace Go.Proofs.YtnbpadnbmbdfeaaDoor
namespace Rows

/-- THE TIED CARD OF 'tandemlaw06.DecodeTells'. -/
def decodeTellsCard : Claim7 := { stood := { row := decodeTellsRow, standIns := [], harness := (true, "b93875bf7b5919da92e19d2a00a0d320773c15a580e6d40b2db6c7a94c413f2e"), looks := false }, kinds := [], alts := [], laidByText := true, laidKinds := [.data, .data, .data, .data, .data, .data, .data, .data, .data, .data, .data, .data], laidTests := true, laidLooks := .later }
def DecodeTellsCardSaid : Prop := Claim7.holds Tryd.pinned (.plain (OpenSpec.ofChange decodeTellsSpec)) decodeTellsCard

/-- THE TIED CARD OF 'tandemlaw06.DecodeRows'. -/
def decodeRowsCard : Claim7 := { stood := { row := decodeRowsRow, standIns := [], harness := (true, "b93875bf7b5919da92e19d2a00a0d320773c15a580e6d40b2db6c7a94c413f2e"), looks := false }, kinds := [], alts := [], laidByText := true, laidKinds := [.data, .data, .data, .data, .data, .data, .data, .data, .data, .data, .data, .data], laidTests := true, laidLooks := .later }
def DecodeRowsCardSaid : Prop := Claim7.holds Tryd.pinned (.plain (OpenSpec.ofChange decodeRowsSpec)) decodeRowsCard

/-- THE TIED CARD OF 'tandemlaw06.DecodeFits'. -/
def decodeFitsCard : Claim7 := { stood := { row := decodeFitsRow, standIns := [], harness := (true, "b93875bf7b5919da92e19d2a00a0d320773c15a580e6d40b2db6c7a94c413f2e"), looks := false }, kinds := [], alts := [], laidByText := true, laidKinds := [.data, .data, .data, .data, .data, .data, .data, .data, .data, .data, .data, .data], laidTests := true, laidLooks := .later }
def DecodeFitsCardSaid : Prop := Claim7.holds Tryd.pinned (.plain (OpenSpec.ofChange decodeFitsSpec)) decodeFitsCard

/-- THE TIED CARD OF 'tandemlaw06.DecodeRegisters'. -/
def decodeRegistersCard : Claim7 := { stood := { row := decodeRegistersRow, standIns := [], harness := (true, "b93875bf7b5919da92e19d2a00a0d320773c15a580e6d40b2db6c7a94c413f2e"), looks := false }, kinds := [], alts := [], laidByText := true, laidKinds := [.data, .data, .data, .data, .data, .data, .data, .data, .data, .data, .data, .data], laidTests := true, laidLooks := .later }
def DecodeRegistersCardSaid : Prop := Claim7.holds Tryd.pinned (.plain (OpenSpec.ofChange decodeRegistersSpec)) decodeRegistersCard

/-- THE TIED CARD OF 'tandemlaw06.DecodeBranches'. -/
def decodeBranchesCard : Claim7 := { stood := { row := decodeBranchesRow, standIns := [], harness := (true, "b93875bf7b5919da92e19d2a00a0d320773c15a580e6d40b2db6c7a94c413f2e"), looks := false }, kinds := [], alts := [], laidByText := true, laidKinds := [.data, .data, .data, .data, .data, .data, .data, .data, .data, .data, .data, .data], laidTests := true, laidLooks := .later }
def DecodeBranchesCardSaid : Prop := Claim7.holds Tryd.pinned (.plain (OpenSpec.ofChange decodeBranchesSpec)) decodeBranchesCard

/-- THE SECOND FORM's CARD OF 'tandemlaw06.DecodeTells'. -/
def decodeTellsUptoCard : Claim7 := { stood := { row := decodeTellsUptoRow, standIns := [], harness := (true, "b93875bf7b5919da92e19d2a00a0d320773c15a580e6d40b2db6c7a94c413f2e"), looks := false }, kinds := [], alts := [], laidByText := true, laidKinds := [.data, .data, .data, .data, .data, .data, .data, .data, .data, .data, .data, .data], laidTests := true, laidLooks := .later }
def DecodeTellsUptoCardSaid : Prop := Claim7.holds Tryd.pinned (.plain (OpenSpec.upto decodeTellsSpec)) decodeTellsUptoCard

/-- THE SECOND FORM's CARD OF 'tandemlaw06.DecodeRows'. -/
def decodeRowsUptoCard : Claim7 := { stood := { row := decodeRowsUptoRow, standIns := [], harness := (true, "b93875bf7b5919da92e19d2a00a0d320773c15a580e6d40b2db6c7a94c413f2e"), looks := false }, kinds := [], alts := [], laidByText := true, laidKinds := [.data, .data, .data, .data, .data, .data, .data, .data, .data, .data, .data, .data], laidTests := true, laidLooks := .later }
def DecodeRowsUptoCardSaid : Prop := Claim7.holds Tryd.pinned (.plain (OpenSpec.upto decodeRowsSpec)) decodeRowsUptoCard

/-- THE SECOND FORM's CARD OF 'tandemlaw06.DecodeFits'. -/
def decodeFitsUptoCard : Claim7 := { stood := { row := decodeFitsUptoRow, standIns := [], harness := (true, "b93875bf7b5919da92e19d2a00a0d320773c15a580e6d40b2db6c7a94c413f2e"), looks := false }, kinds := [], alts := [], laidByText := true, laidKinds := [.data, .data, .data, .data, .data, .data, .data, .data, .data, .data, .data, .data], laidTests := true, laidLooks := .later }
def DecodeFitsUptoCardSaid : Prop := Claim7.holds Tryd.pinned (.plain (OpenSpec.upto decodeFitsSpec)) decodeFitsUptoCard

/-- THE SECOND FORM's CARD OF 'tandemlaw06.DecodeRegisters'. -/
def decodeRegistersUptoCard : Claim7 := { stood := { row := decodeRegistersUptoRow, standIns := [], harness := (true, "b93875bf7b5919da92e19d2a00a0d320773c15a580e6d40b2db6c7a94c413f2e"), looks := false }, kinds := [], alts := [], laidByText := true, laidKinds := [.data, .data, .data, .data, .data, .data, .data, .data, .data, .data, .data, .data], laidTests := true, laidLooks := .later }
def DecodeRegistersUptoCardSaid : Prop := Claim7.holds Tryd.pinned (.plain (OpenSpec.upto decodeRegistersSpec)) decodeRegistersUptoCard

/-- THE SECOND FORM's CARD OF 'tandemlaw06.DecodeBranches'. -/
def decodeBranchesUptoCard : Claim7 := { stood := { row := decodeBranchesUptoRow, standIns := [], harness := (true, "b93875bf7b5919da92e19d2a00a0d320773c15a580e6d40b2db6c7a94c413f2e"), looks := false }, kinds := [], alts := [], laidByText := true, laidKinds := [.data, .data, .data, .data, .data, .data, .data, .data, .data, .data, .data, .data], laidTests := true, laidLooks := .later }
def DecodeBranchesUptoCardSaid : Prop := Claim7.holds Tryd.pinned (.plain (OpenSpec.upto decodeBranchesSpec)) decodeBranchesUptoCard
end Rows
end Go.Proofs.YtnbpadnbmbdfeaaDoor
