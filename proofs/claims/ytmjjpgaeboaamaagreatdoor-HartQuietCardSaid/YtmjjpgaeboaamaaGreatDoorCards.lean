/-
  DERIVED. GIVEN WITH THE SEED: THE CARDS: each row of YtmjjpgaeboaamaaGreatDoorRows.lean that lists a variable, with what it lists TIED to the program's text (the seventh form; the later family's looks); each row that meets fmt, with fmt's text TOLD by the authors' own Lean function (tested against real Go, not proved from fmt's source: count such statements apart). THE CARD IS WHAT COUNTS. Prove the row's statement (the work); the ties are given (YtmjjpgaeboaamaaGreatDoorTie.lean); close each card by the builder's one call (the guide's Derived/Test/ToyasCard.lean, 'card_holds'). Laid BY PROGRAM, IN A SANDBOX (cutbox-door.mjs). By AI agents, Wed Nov 11 2026. No macro, syntax, notation, axiom, sorry.
-/
import Derived.Test.YtmjjpgaeboaamaaGreatDoorRows
import GoSem.ClaimSeven
namespace Go.Proofs.YtmjjpgaeboaamaaGreatDoor
namespace Rows

/-- THE TIED CARD OF 'tandemlaw15.HartRight'. -/
def hartRightCard : Claim7 := { stood := { row := hartRightRow, standIns := [], harness := (true, "1ad82e2c50dc3e176ebf06cc544684b6b6d29bdc0c33abe479f72e7afbb47d7b"), looks := false }, kinds := [], alts := [], laidByText := true, laidKinds := [.data, .data, .data, .data, .data, .data, .data, .data, .data, .data, .data, .data], laidTests := true, laidLooks := .later }
def HartRightCardSaid : Prop := Claim7.holds Tryz.pinned (.plain (OpenSpec.ofChange hartRightSpec)) hartRightCard

/-- THE TIED CARD OF 'tandemlaw15.HartQuiet'. -/
def hartQuietCard : Claim7 := { stood := { row := hartQuietRow, standIns := [], harness := (true, "1ad82e2c50dc3e176ebf06cc544684b6b6d29bdc0c33abe479f72e7afbb47d7b"), looks := false }, kinds := [], alts := [], laidByText := true, laidKinds := [.data, .data, .data, .data, .data, .data, .data, .data, .data, .data, .data, .data], laidTests := true, laidLooks := .later }
def HartQuietCardSaid : Prop := Claim7.holds Tryz.pinned (.plain (OpenSpec.ofChange hartQuietSpec)) hartQuietCard

/-- THE TIED CARD OF 'tandemlaw15.HartShort'. -/
def hartShortCard : Claim7 := { stood := { row := hartShortRow, standIns := [], harness := (true, "1ad82e2c50dc3e176ebf06cc544684b6b6d29bdc0c33abe479f72e7afbb47d7b"), looks := false }, kinds := [], alts := [], laidByText := true, laidKinds := [.data, .data, .data, .data, .data, .data, .data, .data, .data, .data, .data, .data], laidTests := true, laidLooks := .later }
def HartShortCardSaid : Prop := Claim7.holds Tryz.pinned (.plain (OpenSpec.ofChange hartShortSpec)) hartShortCard

/-- THE TIED CARD OF 'tandemlaw16.MachineTells'. -/
def machineTellsCard : Claim7 := { stood := { row := machineTellsRow, standIns := [], harness := (true, "1ad82e2c50dc3e176ebf06cc544684b6b6d29bdc0c33abe479f72e7afbb47d7b"), looks := false }, kinds := [], alts := [], laidByText := true, laidKinds := [.data, .data, .data, .data, .data, .data, .data, .data, .data, .data, .data, .data], laidTests := true, laidLooks := .later }
def MachineTellsCardSaid : Prop := Claim7.holds Tryz.pinned (.plain (OpenSpec.ofChange machineTellsSpec)) machineTellsCard

/-- THE TIED CARD OF 'tandemlaw16.MachineSpecs'. -/
def machineSpecsCard : Claim7 := { stood := { row := machineSpecsRow, standIns := [], harness := (true, "1ad82e2c50dc3e176ebf06cc544684b6b6d29bdc0c33abe479f72e7afbb47d7b"), looks := false }, kinds := [], alts := [], laidByText := true, laidKinds := [.data, .data, .data, .data, .data, .data, .data, .data, .data, .data, .data, .data], laidTests := true, laidLooks := .later }
def MachineSpecsCardSaid : Prop := Claim7.holds Tryz.pinned (.plain (OpenSpec.ofChange machineSpecsSpec)) machineSpecsCard

/-- THE TIED CARD OF 'tandemlaw16.MachineOn'. -/
def machineOnCard : Claim7 := { stood := { row := machineOnRow, standIns := [], harness := (true, "1ad82e2c50dc3e176ebf06cc544684b6b6d29bdc0c33abe479f72e7afbb47d7b"), looks := false }, kinds := [], alts := [], laidByText := true, laidKinds := [.data, .data, .data, .data, .data, .data, .data, .data, .data, .data, .data, .data], laidTests := true, laidLooks := .later }
def MachineOnCardSaid : Prop := Claim7.holds Tryz.pinned (.plain (OpenSpec.ofChange machineOnSpec)) machineOnCard

/-- THE TIED CARD OF 'tandemlaw16.MachineAhead'. -/
def machineAheadCard : Claim7 := { stood := { row := machineAheadRow, standIns := [], harness := (true, "1ad82e2c50dc3e176ebf06cc544684b6b6d29bdc0c33abe479f72e7afbb47d7b"), looks := false }, kinds := [], alts := [], laidByText := true, laidKinds := [.data, .data, .data, .data, .data, .data, .data, .data, .data, .data, .data, .data], laidTests := true, laidLooks := .later }
def MachineAheadCardSaid : Prop := Claim7.holds Tryz.pinned (.plain (OpenSpec.ofChange machineAheadSpec)) machineAheadCard

/-- THE TIED CARD OF 'tandemlaw16.MachineNumbers'. -/
def machineNumbersCard : Claim7 := { stood := { row := machineNumbersRow, standIns := [], harness := (true, "1ad82e2c50dc3e176ebf06cc544684b6b6d29bdc0c33abe479f72e7afbb47d7b"), looks := false }, kinds := [], alts := [], laidByText := true, laidKinds := [.data, .data, .data, .data, .data, .data, .data, .data, .data, .data, .data, .data], laidTests := true, laidLooks := .later }
def MachineNumbersCardSaid : Prop := Claim7.holds Tryz.pinned (.plain (OpenSpec.ofChange machineNumbersSpec)) machineNumbersCard

/-- THE TIED CARD OF 'tandemlaw16.MachineEchoes'. -/
def machineEchoesCard : Claim7 := { stood := { row := machineEchoesRow, standIns := [], harness := (true, "1ad82e2c50dc3e176ebf06cc544684b6b6d29bdc0c33abe479f72e7afbb47d7b"), looks := false }, kinds := [], alts := [], laidByText := true, laidKinds := [.data, .data, .data, .data, .data, .data, .data, .data, .data, .data, .data, .data], laidTests := true, laidLooks := .later }
def MachineEchoesCardSaid : Prop := Claim7.holds Tryz.pinned (.plain (OpenSpec.ofChange machineEchoesSpec)) machineEchoesCard

/-- THE SECOND FORM's CARD OF 'tandemlaw15.HartRight'. -/
def hartRightUptoCard : Claim7 := { stood := { row := hartRightUptoRow, standIns := [], harness := (true, "1ad82e2c50dc3e176ebf06cc544684b6b6d29bdc0c33abe479f72e7afbb47d7b"), looks := false }, kinds := [], alts := [], laidByText := true, laidKinds := [.data, .data, .data, .data, .data, .data, .data, .data, .data, .data, .data, .data], laidTests := true, laidLooks := .later }
def HartRightUptoCardSaid : Prop := Claim7.holds Tryz.pinned (.plain (OpenSpec.upto hartRightSpec)) hartRightUptoCard

/-- THE SECOND FORM's CARD OF 'tandemlaw15.HartQuiet'. -/
def hartQuietUptoCard : Claim7 := { stood := { row := hartQuietUptoRow, standIns := [], harness := (true, "1ad82e2c50dc3e176ebf06cc544684b6b6d29bdc0c33abe479f72e7afbb47d7b"), looks := false }, kinds := [], alts := [], laidByText := true, laidKinds := [.data, .data, .data, .data, .data, .data, .data, .data, .data, .data, .data, .data], laidTests := true, laidLooks := .later }
def HartQuietUptoCardSaid : Prop := Claim7.holds Tryz.pinned (.plain (OpenSpec.upto hartQuietSpec)) hartQuietUptoCard

/-- THE SECOND FORM's CARD OF 'tandemlaw15.HartShort'. -/
def hartShortUptoCard : Claim7 := { stood := { row := hartShortUptoRow, standIns := [], harness := (true, "1ad82e2c50dc3e176ebf06cc544684b6b6d29bdc0c33abe479f72e7afbb47d7b"), looks := false }, kinds := [], alts := [], laidByText := true, laidKinds := [.data, .data, .data, .data, .data, .data, .data, .data, .data, .data, .data, .data], laidTests := true, laidLooks := .later }
def HartShortUptoCardSaid : Prop := Claim7.holds Tryz.pinned (.plain (OpenSpec.upto hartShortSpec)) hartShortUptoCard

/-- THE SECOND FORM's CARD OF 'tandemlaw16.MachineTells'. -/
def machineTellsUptoCard : Claim7 := { stood := { row := machineTellsUptoRow, standIns := [], harness := (true, "1ad82e2c50dc3e176ebf06cc544684b6b6d29bdc0c33abe479f72e7afbb47d7b"), looks := false }, kinds := [], alts := [], laidByText := true, laidKinds := [.data, .data, .data, .data, .data, .data, .data, .data, .data, .data, .data, .data], laidTests := true, laidLooks := .later }
def MachineTellsUptoCardSaid : Prop := Claim7.holds Tryz.pinned (.plain (OpenSpec.upto machineTellsSpec)) machineTellsUptoCard

/-- THE SECOND FORM's CARD OF 'tandemlaw16.MachineSpecs'. -/
def machineSpecsUptoCard : Claim7 := { stood := { row := machineSpecsUptoRow, standIns := [], harness := (true, "1ad82e2c50dc3e176ebf06cc544684b6b6d29bdc0c33abe479f72e7afbb47d7b"), looks := false }, kinds := [], alts := [], laidByText := true, laidKinds := [.data, .data, .data, .data, .data, .data, .data, .data, .data, .data, .data, .data], laidTests := true, laidLooks := .later }
def MachineSpecsUptoCardSaid : Prop := Claim7.holds Tryz.pinned (.plain (OpenSpec.upto machineSpecsSpec)) machineSpecsUptoCard

/-- THE SECOND FORM's CARD OF 'tandemlaw16.MachineOn'. -/
def machineOnUptoCard : Claim7 := { stood := { row := machineOnUptoRow, standIns := [], harness := (true, "1ad82e2c50dc3e176ebf06cc544684b6b6d29bdc0c33abe479f72e7afbb47d7b"), looks := false }, kinds := [], alts := [], laidByText := true, laidKinds := [.data, .data, .data, .data, .data, .data, .data, .data, .data, .data, .data, .data], laidTests := true, laidLooks := .later }
def MachineOnUptoCardSaid : Prop := Claim7.holds Tryz.pinned (.plain (OpenSpec.upto machineOnSpec)) machineOnUptoCard

/-- THE SECOND FORM's CARD OF 'tandemlaw16.MachineAhead'. -/
def machineAheadUptoCard : Claim7 := { stood := { row := machineAheadUptoRow, standIns := [], harness := (true, "1ad82e2c50dc3e176ebf06cc544684b6b6d29bdc0c33abe479f72e7afbb47d7b"), looks := false }, kinds := [], alts := [], laidByText := true, laidKinds := [.data, .data, .data, .data, .data, .data, .data, .data, .data, .data, .data, .data], laidTests := true, laidLooks := .later }
def MachineAheadUptoCardSaid : Prop := Claim7.holds Tryz.pinned (.plain (OpenSpec.upto machineAheadSpec)) machineAheadUptoCard

/-- THE SECOND FORM's CARD OF 'tandemlaw16.MachineNumbers'. -/
def machineNumbersUptoCard : Claim7 := { stood := { row := machineNumbersUptoRow, standIns := [], harness := (true, "1ad82e2c50dc3e176ebf06cc544684b6b6d29bdc0c33abe479f72e7afbb47d7b"), looks := false }, kinds := [], alts := [], laidByText := true, laidKinds := [.data, .data, .data, .data, .data, .data, .data, .data, .data, .data, .data, .data], laidTests := true, laidLooks := .later }
def MachineNumbersUptoCardSaid : Prop := Claim7.holds Tryz.pinned (.plain (OpenSpec.upto machineNumbersSpec)) machineNumbersUptoCard

/-- THE SECOND FORM's CARD OF 'tandemlaw16.MachineEchoes'. -/
def machineEchoesUptoCard : Claim7 := { stood := { row := machineEchoesUptoRow, standIns := [], harness := (true, "1ad82e2c50dc3e176ebf06cc544684b6b6d29bdc0c33abe479f72e7afbb47d7b"), looks := false }, kinds := [], alts := [], laidByText := true, laidKinds := [.data, .data, .data, .data, .data, .data, .data, .data, .data, .data, .data, .data], laidTests := true, laidLooks := .later }
def MachineEchoesUptoCardSaid : Prop := Claim7.holds Tryz.pinned (.plain (OpenSpec.upto machineEchoesSpec)) machineEchoesUptoCard
end Rows
end Go.Proofs.YtmjjpgaeboaamaaGreatDoor
