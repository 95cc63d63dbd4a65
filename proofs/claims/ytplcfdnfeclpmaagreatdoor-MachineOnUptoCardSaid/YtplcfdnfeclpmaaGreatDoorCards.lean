/-
  DERIVED. GIVEN WITH THE SEED: THE CARDS: each row of YtplcfdnfeclpmaaGreatDoorRows.lean that lists a variable, with what it lists TIED to the program's text (the seventh form; the later family's looks); each row that meets fmt, with fmt's text TOLD by the authors' own Lean function (tested against real Go, not proved from fmt's source: count such statements apart). THE CARD IS WHAT COUNTS. Prove the row's statement (the work); the ties are given (YtplcfdnfeclpmaaGreatDoorTie.lean); close each card by the builder's one call (the guide's Derived/Test/ToyasCard.lean, 'card_holds'). Laid BY PROGRAM, IN A SANDBOX (cutbox-door.mjs). By AI agents, Wed Nov 11 2026. No macro, syntax, notation, axiom, sorry.
-/
import Derived.Test.YtplcfdnfeclpmaaGreatDoorRows
import GoSem.ClaimSeven
namespace Go.Proofs.YtplcfdnfeclpmaaGreatDoor
namespace Rows

/-- THE TIED CARD OF 'tandemlaw15.HartRight'. -/
def hartRightCard : Claim7 := { stood := { row := hartRightRow, standIns := [], harness := (true, "17b9d322e37afffd30134b847fbcf94c2b0d0631e96988515a1d45a95de00870"), looks := false }, kinds := [], alts := [], laidByText := true, laidKinds := [.data, .data, .data, .data, .data, .data, .data, .data, .data, .data, .data, .data], laidTests := true, laidLooks := .later }
def HartRightCardSaid : Prop := Claim7.holds Tryz.pinned (.plain (OpenSpec.ofChange hartRightSpec)) hartRightCard

/-- THE TIED CARD OF 'tandemlaw16.MachineOn'. -/
def machineOnCard : Claim7 := { stood := { row := machineOnRow, standIns := [], harness := (true, "17b9d322e37afffd30134b847fbcf94c2b0d0631e96988515a1d45a95de00870"), looks := false }, kinds := [], alts := [], laidByText := true, laidKinds := [.data, .data, .data, .data, .data, .data, .data, .data, .data, .data, .data, .data], laidTests := true, laidLooks := .later }
def MachineOnCardSaid : Prop := Claim7.holds Tryz.pinned (.plain (OpenSpec.ofChange machineOnSpec)) machineOnCard

/-- THE TIED CARD OF 'tandemlaw16.MachineAhead'. -/
def machineAheadCard : Claim7 := { stood := { row := machineAheadRow, standIns := [], harness := (true, "17b9d322e37afffd30134b847fbcf94c2b0d0631e96988515a1d45a95de00870"), looks := false }, kinds := [], alts := [], laidByText := true, laidKinds := [.data, .data, .data, .data, .data, .data, .data, .data, .data, .data, .data, .data], laidTests := true, laidLooks := .later }
def MachineAheadCardSaid : Prop := Claim7.holds Tryz.pinned (.plain (OpenSpec.ofChange machineAheadSpec)) machineAheadCard

/-- THE TIED CARD OF 'tandemlaw16.MachineNumbers'. -/
def machineNumbersCard : Claim7 := { stood := { row := machineNumbersRow, standIns := [], harness := (true, "17b9d322e37afffd30134b847fbcf94c2b0d0631e96988515a1d45a95de00870"), looks := false }, kinds := [], alts := [], laidByText := true, laidKinds := [.data, .data, .data, .data, .data, .data, .data, .data, .data, .data, .data, .data], laidTests := true, laidLooks := .later }
def MachineNumbersCardSaid : Prop := Claim7.holds Tryz.pinned (.plain (OpenSpec.ofChange machineNumbersSpec)) machineNumbersCard

/-- THE SECOND FORM's CARD OF 'tandemlaw15.HartRight'. -/
def hartRightUptoCard : Claim7 := { stood := { row := hartRightUptoRow, standIns := [], harness := (true, "17b9d322e37afffd30134b847fbcf94c2b0d0631e96988515a1d45a95de00870"), looks := false }, kinds := [], alts := [], laidByText := true, laidKinds := [.data, .data, .data, .data, .data, .data, .data, .data, .data, .data, .data, .data], laidTests := true, laidLooks := .later }
def HartRightUptoCardSaid : Prop := Claim7.holds Tryz.pinned (.plain (OpenSpec.upto hartRightSpec)) hartRightUptoCard

/-- THE SECOND FORM's CARD OF 'tandemlaw16.MachineOn'. -/
def machineOnUptoCard : Claim7 := { stood := { row := machineOnUptoRow, standIns := [], harness := (true, "17b9d322e37afffd30134b847fbcf94c2b0d0631e96988515a1d45a95de00870"), looks := false }, kinds := [], alts := [], laidByText := true, laidKinds := [.data, .data, .data, .data, .data, .data, .data, .data, .data, .data, .data, .data], laidTests := true, laidLooks := .later }
def MachineOnUptoCardSaid : Prop := Claim7.holds Tryz.pinned (.plain (OpenSpec.upto machineOnSpec)) machineOnUptoCard

/-- THE SECOND FORM's CARD OF 'tandemlaw16.MachineAhead'. -/
def machineAheadUptoCard : Claim7 := { stood := { row := machineAheadUptoRow, standIns := [], harness := (true, "17b9d322e37afffd30134b847fbcf94c2b0d0631e96988515a1d45a95de00870"), looks := false }, kinds := [], alts := [], laidByText := true, laidKinds := [.data, .data, .data, .data, .data, .data, .data, .data, .data, .data, .data, .data], laidTests := true, laidLooks := .later }
def MachineAheadUptoCardSaid : Prop := Claim7.holds Tryz.pinned (.plain (OpenSpec.upto machineAheadSpec)) machineAheadUptoCard

/-- THE SECOND FORM's CARD OF 'tandemlaw16.MachineNumbers'. -/
def machineNumbersUptoCard : Claim7 := { stood := { row := machineNumbersUptoRow, standIns := [], harness := (true, "17b9d322e37afffd30134b847fbcf94c2b0d0631e96988515a1d45a95de00870"), looks := false }, kinds := [], alts := [], laidByText := true, laidKinds := [.data, .data, .data, .data, .data, .data, .data, .data, .data, .data, .data, .data], laidTests := true, laidLooks := .later }
def MachineNumbersUptoCardSaid : Prop := Claim7.holds Tryz.pinned (.plain (OpenSpec.upto machineNumbersSpec)) machineNumbersUptoCard
end Rows
end Go.Proofs.YtplcfdnfeclpmaaGreatDoor
