/-
  DERIVED. GIVEN WITH THE SEED: THE PROGRAM's TIES (one call each: nine closed facts by the kernel) AND EACH ROW's TIE, after the 31st guide's Derived/Test/Toyas{Tie, Card}.lean. No idea stands in it: it is a product of the set-up. Laid BY PROGRAM, IN A SANDBOX (cutbox-door.mjs). By AI agents, Wed Nov 11 2026. No macro, syntax, notation, axiom, sorry.
-/
import Derived.Test.YtjijgcgbnmobfaaGreatDoorRows
import Derived.LaidByTextLater
import Derived.SevenTiedAt
import Derived.LaidSub
import Derived.LaidOnce
namespace Go.Proofs.YtjijgcgbnmobfaaGreatDoor
open Go
set_option maxRecDepth 100000
theorem seatTie1 : Tryz.prog.laidByTextLater [("demurrage/civil.lengths", Rows.laid_demurrage_civil_lengths), ("errors.errorType", Rows.laid_errors_errorType), ("demurrage/actual.errDay", Rows.laid_demurrage_actual_errDay), ("demurrage/actual.errOrder", Rows.laid_demurrage_actual_errOrder), ("demurrage/icma.errNoDay", Rows.laid_demurrage_icma_errNoDay), ("demurrage/icma.errOrder", Rows.laid_demurrage_icma_errOrder), ("demurrage/icma.errMany", Rows.laid_demurrage_icma_errMany), ("demurrage/icma.errFalls", Rows.laid_demurrage_icma_errFalls), ("demurrage/icma.errEmpty", Rows.laid_demurrage_icma_errEmpty), ("demurrage/icma.errFreq", Rows.laid_demurrage_icma_errFreq), ("demurrage/icma.errOutside", Rows.laid_demurrage_icma_errOutside), ("demurrage/roll.names", Rows.laid_demurrage_roll_names), ("demurrage/terms.names", Rows.laid_demurrage_terms_names), ("demurrage/terms.errNone", Rows.laid_demurrage_terms_errNone), ("demurrage/terms.errDay", Rows.laid_demurrage_terms_errDay), ("demurrage/terms.errOrder", Rows.laid_demurrage_terms_errOrder), ("demurrage/terms.errBound", Rows.laid_demurrage_terms_errBound)] [.data, .handle, .sentinel, .sentinel, .sentinel, .sentinel, .sentinel, .sentinel, .sentinel, .sentinel, .sentinel, .data, .data, .sentinel, .sentinel, .sentinel, .sentinel] true :=
  Program.laidByTextLater_by_one 278 8 13 (by kernel_rfl) (by kernel_rfl) (by kernel_rfl) (by kernel_rfl) (by kernel_rfl) (by kernel_rfl) (fun _ _ => by kernel_rfl)
theorem noOwnUnsafe : Tryz.pinned.checked.prog.headLifts.contains "ownunsafe" = false := by kernel_rfl
theorem tie : Tryz.prog.laidByTextLater [("demurrage/civil.lengths", Rows.laid_demurrage_civil_lengths), ("errors.errorType", Rows.laid_errors_errorType), ("demurrage/actual.errDay", Rows.laid_demurrage_actual_errDay), ("demurrage/actual.errOrder", Rows.laid_demurrage_actual_errOrder), ("demurrage/icma.errNoDay", Rows.laid_demurrage_icma_errNoDay), ("demurrage/icma.errOrder", Rows.laid_demurrage_icma_errOrder), ("demurrage/icma.errMany", Rows.laid_demurrage_icma_errMany), ("demurrage/icma.errFalls", Rows.laid_demurrage_icma_errFalls), ("demurrage/icma.errEmpty", Rows.laid_demurrage_icma_errEmpty), ("demurrage/icma.errFreq", Rows.laid_demurrage_icma_errFreq), ("demurrage/icma.errOutside", Rows.laid_demurrage_icma_errOutside), ("demurrage/roll.names", Rows.laid_demurrage_roll_names), ("demurrage/terms.names", Rows.laid_demurrage_terms_names), ("demurrage/terms.errNone", Rows.laid_demurrage_terms_errNone), ("demurrage/terms.errDay", Rows.laid_demurrage_terms_errDay), ("demurrage/terms.errOrder", Rows.laid_demurrage_terms_errOrder), ("demurrage/terms.errBound", Rows.laid_demurrage_terms_errBound)] [.data, .handle, .sentinel, .sentinel, .sentinel, .sentinel, .sentinel, .sentinel, .sentinel, .sentinel, .sentinel, .data, .data, .sentinel, .sentinel, .sentinel, .sentinel] true :=
  Program.laidByTextLater.sub seatTie1 ["demurrage/civil.lengths", "errors.errorType", "demurrage/actual.errDay", "demurrage/actual.errOrder", "demurrage/icma.errNoDay", "demurrage/icma.errOrder", "demurrage/icma.errMany", "demurrage/icma.errFalls", "demurrage/icma.errEmpty", "demurrage/icma.errFreq", "demurrage/icma.errOutside", "demurrage/roll.names", "demurrage/terms.names", "demurrage/terms.errNone", "demurrage/terms.errDay", "demurrage/terms.errOrder", "demurrage/terms.errBound"] (by kernel_rfl) (by kernel_rfl)
theorem datesTells_row_tie : Rows.datesTellsRow.laidByTextAt .later Tryz.pinned [.data, .handle, .sentinel, .sentinel, .sentinel, .sentinel, .sentinel, .sentinel, .sentinel, .sentinel, .sentinel, .data, .data, .sentinel, .sentinel, .sentinel, .sentinel] true :=
  OpenClaim.laidByTextAt_later rfl rfl tie noOwnUnsafe
theorem datesRise_row_tie : Rows.datesRiseRow.laidByTextAt .later Tryz.pinned [.data, .handle, .sentinel, .sentinel, .sentinel, .sentinel, .sentinel, .sentinel, .sentinel, .sentinel, .sentinel, .data, .data, .sentinel, .sentinel, .sentinel, .sentinel] true :=
  OpenClaim.laidByTextAt_later rfl rfl tie noOwnUnsafe
theorem datesStub_row_tie : Rows.datesStubRow.laidByTextAt .later Tryz.pinned [.data, .handle, .sentinel, .sentinel, .sentinel, .sentinel, .sentinel, .sentinel, .sentinel, .sentinel, .sentinel, .data, .data, .sentinel, .sentinel, .sentinel, .sentinel] true :=
  OpenClaim.laidByTextAt_later rfl rfl tie noOwnUnsafe
theorem datesGrid_row_tie : Rows.datesGridRow.laidByTextAt .later Tryz.pinned [.data, .handle, .sentinel, .sentinel, .sentinel, .sentinel, .sentinel, .sentinel, .sentinel, .sentinel, .sentinel, .data, .data, .sentinel, .sentinel, .sentinel, .sentinel] true :=
  OpenClaim.laidByTextAt_later rfl rfl tie noOwnUnsafe
theorem datesMany_row_tie : Rows.datesManyRow.laidByTextAt .later Tryz.pinned [.data, .handle, .sentinel, .sentinel, .sentinel, .sentinel, .sentinel, .sentinel, .sentinel, .sentinel, .sentinel, .data, .data, .sentinel, .sentinel, .sentinel, .sentinel] true :=
  OpenClaim.laidByTextAt_later rfl rfl tie noOwnUnsafe
theorem datesTurn_row_tie : Rows.datesTurnRow.laidByTextAt .later Tryz.pinned [.data, .handle, .sentinel, .sentinel, .sentinel, .sentinel, .sentinel, .sentinel, .sentinel, .sentinel, .sentinel, .data, .data, .sentinel, .sentinel, .sentinel, .sentinel] true :=
  OpenClaim.laidByTextAt_later rfl rfl tie noOwnUnsafe
theorem datesTellsUpto_row_tie : Rows.datesTellsUptoRow.laidByTextAt .later Tryz.pinned [.data, .handle, .sentinel, .sentinel, .sentinel, .sentinel, .sentinel, .sentinel, .sentinel, .sentinel, .sentinel, .data, .data, .sentinel, .sentinel, .sentinel, .sentinel] true :=
  OpenClaim.laidByTextAt_later rfl rfl tie noOwnUnsafe
theorem datesRiseUpto_row_tie : Rows.datesRiseUptoRow.laidByTextAt .later Tryz.pinned [.data, .handle, .sentinel, .sentinel, .sentinel, .sentinel, .sentinel, .sentinel, .sentinel, .sentinel, .sentinel, .data, .data, .sentinel, .sentinel, .sentinel, .sentinel] true :=
  OpenClaim.laidByTextAt_later rfl rfl tie noOwnUnsafe
theorem datesStubUpto_row_tie : Rows.datesStubUptoRow.laidByTextAt .later Tryz.pinned [.data, .handle, .sentinel, .sentinel, .sentinel, .sentinel, .sentinel, .sentinel, .sentinel, .sentinel, .sentinel, .data, .data, .sentinel, .sentinel, .sentinel, .sentinel] true :=
  OpenClaim.laidByTextAt_later rfl rfl tie noOwnUnsafe
theorem datesGridUpto_row_tie : Rows.datesGridUptoRow.laidByTextAt .later Tryz.pinned [.data, .handle, .sentinel, .sentinel, .sentinel, .sentinel, .sentinel, .sentinel, .sentinel, .sentinel, .sentinel, .data, .data, .sentinel, .sentinel, .sentinel, .sentinel] true :=
  OpenClaim.laidByTextAt_later rfl rfl tie noOwnUnsafe
theorem datesManyUpto_row_tie : Rows.datesManyUptoRow.laidByTextAt .later Tryz.pinned [.data, .handle, .sentinel, .sentinel, .sentinel, .sentinel, .sentinel, .sentinel, .sentinel, .sentinel, .sentinel, .data, .data, .sentinel, .sentinel, .sentinel, .sentinel] true :=
  OpenClaim.laidByTextAt_later rfl rfl tie noOwnUnsafe
theorem datesTurnUpto_row_tie : Rows.datesTurnUptoRow.laidByTextAt .later Tryz.pinned [.data, .handle, .sentinel, .sentinel, .sentinel, .sentinel, .sentinel, .sentinel, .sentinel, .sentinel, .sentinel, .data, .data, .sentinel, .sentinel, .sentinel, .sentinel] true :=
  OpenClaim.laidByTextAt_later rfl rfl tie noOwnUnsafe
end Go.Proofs.YtjijgcgbnmobfaaGreatDoor
