/-
  DERIVED. GIVEN WITH THE SEED: THE CARDS: each row of YtjohcpokmdofkaaGreatDoorRows.lean that lists a variable, with what it lists TIED to the program's text (the seventh form; the later family's looks); each row that meets fmt, with fmt's text TOLD by the authors' own Lean function (tested against real Go, not proved from fmt's source: count such statements apart). THE CARD IS WHAT COUNTS. Prove the row's statement (the work); the ties are given (YtjohcpokmdofkaaGreatDoorTie.lean); close each card by the builder's one call (the guide's Derived/Test/ToyasCard.lean, 'card_holds'). Laid BY PROGRAM, IN A SANDBOX (cutbox-door.mjs). By AI agents, Wed Nov 11 2026. No macro, syntax, notation, axiom, sorry.
-/
import Derived.Test.YtjohcpokmdofkaaGreatDoorRows
import GoSem.ClaimSeven
namespace Go.Proofs.YtjohcpokmdofkaaGreatDoor
namespace Rows

/-- THE TIED CARD OF 'tandemlaw15.HartRight'. -/
def hartRightCard : Claim7 := { stood := { row := hartRightRow, standIns := [], harness := (true, "746670e38f063c4fb9dd73e9f45c3c82c4d69c8ef48d124c48f1c9ac71c0569e"), looks := false }, kinds := [], alts := [], laidByText := true, laidKinds := [.data, .data, .data, .data, .data, .data, .data, .data, .data, .data, .data, .data], laidTests := true, laidLooks := .later }
def HartRightCardSaid : Prop := Claim7.holds Tryz.pinned (.plain (OpenSpec.ofChange hartRightSpec)) hartRightCard

/-- THE TIED CARD OF 'tandemlaw15.HartQuiet'. -/
def hartQuietCard : Claim7 := { stood := { row := hartQuietRow, standIns := [], harness := (true, "746670e38f063c4fb9dd73e9f45c3c82c4d69c8ef48d124c48f1c9ac71c0569e"), looks := false }, kinds := [], alts := [], laidByText := true, laidKinds := [.data, .data, .data, .data, .data, .data, .data, .data, .data, .data, .data, .data], laidTests := true, laidLooks := .later }
def HartQuietCardSaid : Prop := Claim7.holds Tryz.pinned (.plain (OpenSpec.ofChange hartQuietSpec)) hartQuietCard

/-- THE TIED CARD OF 'tandemlaw15.HartShort'. -/
def hartShortCard : Claim7 := { stood := { row := hartShortRow, standIns := [], harness := (true, "746670e38f063c4fb9dd73e9f45c3c82c4d69c8ef48d124c48f1c9ac71c0569e"), looks := false }, kinds := [], alts := [], laidByText := true, laidKinds := [.data, .data, .data, .data, .data, .data, .data, .data, .data, .data, .data, .data], laidTests := true, laidLooks := .later }
def HartShortCardSaid : Prop := Claim7.holds Tryz.pinned (.plain (OpenSpec.ofChange hartShortSpec)) hartShortCard

/-- THE TIED CARD OF 'tandemlaw15.HartInterrupted'. -/
def hartInterruptedCard : Claim7 := { stood := { row := hartInterruptedRow, standIns := [], harness := (true, "746670e38f063c4fb9dd73e9f45c3c82c4d69c8ef48d124c48f1c9ac71c0569e"), looks := false }, kinds := [], alts := [], laidByText := true, laidKinds := [.data, .data, .data, .data, .data, .data, .data, .data, .data, .data, .data, .data], laidTests := true, laidLooks := .later }
def HartInterruptedCardSaid : Prop := Claim7.holds Tryz.pinned (.plain (OpenSpec.ofChange hartInterruptedSpec)) hartInterruptedCard

/-- THE SECOND FORM's CARD OF 'tandemlaw15.HartRight'. -/
def hartRightUptoCard : Claim7 := { stood := { row := hartRightUptoRow, standIns := [], harness := (true, "746670e38f063c4fb9dd73e9f45c3c82c4d69c8ef48d124c48f1c9ac71c0569e"), looks := false }, kinds := [], alts := [], laidByText := true, laidKinds := [.data, .data, .data, .data, .data, .data, .data, .data, .data, .data, .data, .data], laidTests := true, laidLooks := .later }
def HartRightUptoCardSaid : Prop := Claim7.holds Tryz.pinned (.plain (OpenSpec.upto hartRightSpec)) hartRightUptoCard

/-- THE SECOND FORM's CARD OF 'tandemlaw15.HartQuiet'. -/
def hartQuietUptoCard : Claim7 := { stood := { row := hartQuietUptoRow, standIns := [], harness := (true, "746670e38f063c4fb9dd73e9f45c3c82c4d69c8ef48d124c48f1c9ac71c0569e"), looks := false }, kinds := [], alts := [], laidByText := true, laidKinds := [.data, .data, .data, .data, .data, .data, .data, .data, .data, .data, .data, .data], laidTests := true, laidLooks := .later }
def HartQuietUptoCardSaid : Prop := Claim7.holds Tryz.pinned (.plain (OpenSpec.upto hartQuietSpec)) hartQuietUptoCard

/-- THE SECOND FORM's CARD OF 'tandemlaw15.HartShort'. -/
def hartShortUptoCard : Claim7 := { stood := { row := hartShortUptoRow, standIns := [], harness := (true, "746670e38f063c4fb9dd73e9f45c3c82c4d69c8ef48d124c48f1c9ac71c0569e"), looks := false }, kinds := [], alts := [], laidByText := true, laidKinds := [.data, .data, .data, .data, .data, .data, .data, .data, .data, .data, .data, .data], laidTests := true, laidLooks := .later }
def HartShortUptoCardSaid : Prop := Claim7.holds Tryz.pinned (.plain (OpenSpec.upto hartShortSpec)) hartShortUptoCard

/-- THE SECOND FORM's CARD OF 'tandemlaw15.HartInterrupted'. -/
def hartInterruptedUptoCard : Claim7 := { stood := { row := hartInterruptedUptoRow, standIns := [], harness := (true, "746670e38f063c4fb9dd73e9f45c3c82c4d69c8ef48d124c48f1c9ac71c0569e"), looks := false }, kinds := [], alts := [], laidByText := true, laidKinds := [.data, .data, .data, .data, .data, .data, .data, .data, .data, .data, .data, .data], laidTests := true, laidLooks := .later }
def HartInterruptedUptoCardSaid : Prop := Claim7.holds Tryz.pinned (.plain (OpenSpec.upto hartInterruptedSpec)) hartInterruptedUptoCard
end Rows
end Go.Proofs.YtjohcpokmdofkaaGreatDoor
