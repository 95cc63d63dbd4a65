/-
  DERIVED. GIVEN WITH THE SEED: THE PROGRAM's TIES (one call each: nine closed facts by the kernel) AND EACH ROW's TIE, after the 31st guide's Derived/Test/Toyas{Tie, Card}.lean. No idea stands in it: it is a product of the set-up. Laid BY PROGRAM, IN A SANDBOX (cutbox-door.mjs). By AI agents, Wed Nov 11 2026. No macro, syntax, notation, axiom, sorry.
-/
import Derived.Test.YtplcfdnfeclpmaaGreatDoorRows
import Derived.LaidByTextLater
import Derived.SevenTiedAt
import Derived.LaidSub
import Derived.LaidOnce
namespace Go.Proofs.YtplcfdnfeclpmaaGreatDoor
open Go
set_option maxRecDepth 100000
theorem seatTie1 : Tryz.prog.laidByTextLater [("tandem/decode.branches", Rows.laid_tandem_decode_branches), ("tandem/decode.loads", Rows.laid_tandem_decode_loads), ("tandem/decode.stores", Rows.laid_tandem_decode_stores), ("tandem/decode.numbers", Rows.laid_tandem_decode_numbers), ("tandem/decode.sums", Rows.laid_tandem_decode_sums), ("tandem/decode.products", Rows.laid_tandem_decode_products), ("tandem/decode.others", Rows.laid_tandem_decode_others), ("tandem/decode.wordSums", Rows.laid_tandem_decode_wordSums), ("tandem/decode.wordProducts", Rows.laid_tandem_decode_wordProducts), ("tandem/decode.wordOthers", Rows.laid_tandem_decode_wordOthers), ("tandem/decode.fences", Rows.laid_tandem_decode_fences), ("tandem/decode.registers", Rows.laid_tandem_decode_registers)] [.data, .data, .data, .data, .data, .data, .data, .data, .data, .data, .data, .data] true :=
  Program.laidByTextLater_by_one 69 8 9 (by kernel_rfl) (by kernel_rfl) (by kernel_rfl) (by kernel_rfl) (by kernel_rfl) (by kernel_rfl) (fun _ _ => by kernel_rfl)
theorem noOwnUnsafe : Tryz.pinned.checked.prog.headLifts.contains "ownunsafe" = false := by kernel_rfl
theorem tie : Tryz.prog.laidByTextLater [("tandem/decode.branches", Rows.laid_tandem_decode_branches), ("tandem/decode.loads", Rows.laid_tandem_decode_loads), ("tandem/decode.stores", Rows.laid_tandem_decode_stores), ("tandem/decode.numbers", Rows.laid_tandem_decode_numbers), ("tandem/decode.sums", Rows.laid_tandem_decode_sums), ("tandem/decode.products", Rows.laid_tandem_decode_products), ("tandem/decode.others", Rows.laid_tandem_decode_others), ("tandem/decode.wordSums", Rows.laid_tandem_decode_wordSums), ("tandem/decode.wordProducts", Rows.laid_tandem_decode_wordProducts), ("tandem/decode.wordOthers", Rows.laid_tandem_decode_wordOthers), ("tandem/decode.fences", Rows.laid_tandem_decode_fences), ("tandem/decode.registers", Rows.laid_tandem_decode_registers)] [.data, .data, .data, .data, .data, .data, .data, .data, .data, .data, .data, .data] true :=
  Program.laidByTextLater.sub seatTie1 ["tandem/decode.branches", "tandem/decode.loads", "tandem/decode.stores", "tandem/decode.numbers", "tandem/decode.sums", "tandem/decode.products", "tandem/decode.others", "tandem/decode.wordSums", "tandem/decode.wordProducts", "tandem/decode.wordOthers", "tandem/decode.fences", "tandem/decode.registers"] (by kernel_rfl) (by kernel_rfl)
theorem hartRight_row_tie : Rows.hartRightRow.laidByTextAt .later Tryz.pinned [.data, .data, .data, .data, .data, .data, .data, .data, .data, .data, .data, .data] true :=
  OpenClaim.laidByTextAt_later rfl rfl tie noOwnUnsafe
theorem machineOn_row_tie : Rows.machineOnRow.laidByTextAt .later Tryz.pinned [.data, .data, .data, .data, .data, .data, .data, .data, .data, .data, .data, .data] true :=
  OpenClaim.laidByTextAt_later rfl rfl tie noOwnUnsafe
theorem machineAhead_row_tie : Rows.machineAheadRow.laidByTextAt .later Tryz.pinned [.data, .data, .data, .data, .data, .data, .data, .data, .data, .data, .data, .data] true :=
  OpenClaim.laidByTextAt_later rfl rfl tie noOwnUnsafe
theorem machineNumbers_row_tie : Rows.machineNumbersRow.laidByTextAt .later Tryz.pinned [.data, .data, .data, .data, .data, .data, .data, .data, .data, .data, .data, .data] true :=
  OpenClaim.laidByTextAt_later rfl rfl tie noOwnUnsafe
theorem hartRightUpto_row_tie : Rows.hartRightUptoRow.laidByTextAt .later Tryz.pinned [.data, .data, .data, .data, .data, .data, .data, .data, .data, .data, .data, .data] true :=
  OpenClaim.laidByTextAt_later rfl rfl tie noOwnUnsafe
theorem machineOnUpto_row_tie : Rows.machineOnUptoRow.laidByTextAt .later Tryz.pinned [.data, .data, .data, .data, .data, .data, .data, .data, .data, .data, .data, .data] true :=
  OpenClaim.laidByTextAt_later rfl rfl tie noOwnUnsafe
theorem machineAheadUpto_row_tie : Rows.machineAheadUptoRow.laidByTextAt .later Tryz.pinned [.data, .data, .data, .data, .data, .data, .data, .data, .data, .data, .data, .data] true :=
  OpenClaim.laidByTextAt_later rfl rfl tie noOwnUnsafe
theorem machineNumbersUpto_row_tie : Rows.machineNumbersUptoRow.laidByTextAt .later Tryz.pinned [.data, .data, .data, .data, .data, .data, .data, .data, .data, .data, .data, .data] true :=
  OpenClaim.laidByTextAt_later rfl rfl tie noOwnUnsafe
end Go.Proofs.YtplcfdnfeclpmaaGreatDoor
