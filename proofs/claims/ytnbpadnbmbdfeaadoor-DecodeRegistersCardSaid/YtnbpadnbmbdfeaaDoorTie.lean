/-
  DERIVED. GIVEN WITH THE SEED: THE PROGRAM's TIES (one call each: nine closed facts by the kernel) AND EACH ROW's TIE, after the 31st guide's Derived/Test/Toyas{Tie, Card}.lean. No idea stands in it: it is a product of the set-up. Laid BY PROGRAM, IN A SANDBOX (cutbox-door.mjs). By AI agents, Wed Nov 11 2026. No macro, syntax, notation, axiom, sorry.
-/
import Derived.Test.YtnbpadnbmbdfeaaDoorRows
import Derived.LaidByTextLater
import Derived.SevenTiedAt
import Derived.LaidSub
import Derived.LaidOnce
namespace Go.Proofs.YtnbpadnbmbdfeaaDoor
open Go
set_option maxRecDepth 100000
theorem seatTie1 : Tryd.prog.laidByTextLater [("tandem/decode.branches", Rows.laid_tandem_decode_branches), ("tandem/decode.loads", Rows.laid_tandem_decode_loads), ("tandem/decode.stores", Rows.laid_tandem_decode_stores), ("tandem/decode.numbers", Rows.laid_tandem_decode_numbers), ("tandem/decode.sums", Rows.laid_tandem_decode_sums), ("tandem/decode.products", Rows.laid_tandem_decode_products), ("tandem/decode.others", Rows.laid_tandem_decode_others), ("tandem/decode.wordSums", Rows.laid_tandem_decode_wordSums), ("tandem/decode.wordProducts", Rows.laid_tandem_decode_wordProducts), ("tandem/decode.wordOthers", Rows.laid_tandem_decode_wordOthers), ("tandem/decode.fences", Rows.laid_tandem_decode_fences), ("tandem/decode.registers", Rows.laid_tandem_decode_registers)] [.data, .data, .data, .data, .data, .data, .data, .data, .data, .data, .data, .data] true :=
  Program.laidByTextLater_by_one 69 8 9 (by kernel_rfl) (by kernel_rfl) (by kernel_rfl) (by kernel_rfl) (by kernel_rfl) (by kernel_rfl) (fun _ _ => by kernel_rfl)
theorem noOwnUnsafe : Tryd.pinned.checked.prog.headLifts.contains "ownunsafe" = false := by kernel_rfl
theorem tie : Tryd.prog.laidByTextLater [("tandem/decode.branches", Rows.laid_tandem_decode_branches), ("tandem/decode.loads", Rows.laid_tandem_decode_loads), ("tandem/decode.stores", Rows.laid_tandem_decode_stores), ("tandem/decode.numbers", Rows.laid_tandem_decode_numbers), ("tandem/decode.sums", Rows.laid_tandem_decode_sums), ("tandem/decode.products", Rows.laid_tandem_decode_products), ("tandem/decode.others", Rows.laid_tandem_decode_others), ("tandem/decode.wordSums", Rows.laid_tandem_decode_wordSums), ("tandem/decode.wordProducts", Rows.laid_tandem_decode_wordProducts), ("tandem/decode.wordOthers", Rows.laid_tandem_decode_wordOthers), ("tandem/decode.fences", Rows.laid_tandem_decode_fences), ("tandem/decode.registers", Rows.laid_tandem_decode_registers)] [.data, .data, .data, .data, .data, .data, .data, .data, .data, .data, .data, .data] true :=
  Program.laidByTextLater.sub seatTie1 ["tandem/decode.branches", "tandem/decode.loads", "tandem/decode.stores", "tandem/decode.numbers", "tandem/decode.sums", "tandem/decode.products", "tandem/decode.others", "tandem/decode.wordSums", "tandem/decode.wordProducts", "tandem/decode.wordOthers", "tandem/decode.fences", "tandem/decode.registers"] (by kernel_rfl) (by kernel_rfl)
theorem decodeTells_row_tie : Rows.decodeTellsRow.laidByTextAt .later Tryd.pinned [.data, .data, .data, .data, .data, .data, .data, .data, .data, .data, .data, .data] true :=
  OpenClaim.laidByTextAt_later rfl rfl tie noOwnUnsafe
theorem decodeRows_row_tie : Rows.decodeRowsRow.laidByTextAt .later Tryd.pinned [.data, .data, .data, .data, .data, .data, .data, .data, .data, .data, .data, .data] true :=
  OpenClaim.laidByTextAt_later rfl rfl tie noOwnUnsafe
theorem decodeFits_row_tie : Rows.decodeFitsRow.laidByTextAt .later Tryd.pinned [.data, .data, .data, .data, .data, .data, .data, .data, .data, .data, .data, .data] true :=
  OpenClaim.laidByTextAt_later rfl rfl tie noOwnUnsafe
theorem decodeRegisters_row_tie : Rows.decodeRegistersRow.laidByTextAt .later Tryd.pinned [.data, .data, .data, .data, .data, .data, .data, .data, .data, .data, .data, .data] true :=
  OpenClaim.laidByTextAt_later rfl rfl tie noOwnUnsafe
theorem decodeBranches_row_tie : Rows.decodeBranchesRow.laidByTextAt .later Tryd.pinned [.data, .data, .data, .data, .data, .data, .data, .data, .data, .data, .data, .data] true :=
  OpenClaim.laidByTextAt_later rfl rfl tie noOwnUnsafe
theorem decodeTellsUpto_row_tie : Rows.decodeTellsUptoRow.laidByTextAt .later Tryd.pinned [.data, .data, .data, .data, .data, .data, .data, .data, .data, .data, .data, .data] true :=
  OpenClaim.laidByTextAt_later rfl rfl tie noOwnUnsafe
theorem decodeRowsUpto_row_tie : Rows.decodeRowsUptoRow.laidByTextAt .later Tryd.pinned [.data, .data, .data, .data, .data, .data, .data, .data, .data, .data, .data, .data] true :=
  OpenClaim.laidByTextAt_later rfl rfl tie noOwnUnsafe
theorem decodeFitsUpto_row_tie : Rows.decodeFitsUptoRow.laidByTextAt .later Tryd.pinned [.data, .data, .data, .data, .data, .data, .data, .data, .data, .data, .data, .data] true :=
  OpenClaim.laidByTextAt_later rfl rfl tie noOwnUnsafe
theorem decodeRegistersUpto_row_tie : Rows.decodeRegistersUptoRow.laidByTextAt .later Tryd.pinned [.data, .data, .data, .data, .data, .data, .data, .data, .data, .data, .data, .data] true :=
  OpenClaim.laidByTextAt_later rfl rfl tie noOwnUnsafe
theorem decodeBranchesUpto_row_tie : Rows.decodeBranchesUptoRow.laidByTextAt .later Tryd.pinned [.data, .data, .data, .data, .data, .data, .data, .data, .data, .data, .data, .data] true :=
  OpenClaim.laidByTextAt_later rfl rfl tie noOwnUnsafe
end Go.Proofs.YtnbpadnbmbdfeaaDoor
