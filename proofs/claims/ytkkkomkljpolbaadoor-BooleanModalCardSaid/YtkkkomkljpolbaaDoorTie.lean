/-
  DERIVED. GIVEN WITH THE SEED: THE PROGRAM's TIES (one call each: nine closed facts by the kernel) AND EACH ROW's TIE, after the 31st guide's Derived/Test/Toyas{Tie, Card}.lean. No idea stands in it: it is a product of the set-up. Laid BY PROGRAM, IN A SANDBOX (cutbox-door.mjs). By AI agents, Wed Nov 11 2026. No macro, syntax, notation, axiom, sorry.
-/
import Derived.Test.YtkkkomkljpolbaaDoorRows
import Derived.LaidByTextLater
import Derived.SevenTiedAt
import Derived.LaidSub
import Derived.LaidOnce
namespace Go.Proofs.YtkkkomkljpolbaaDoor
open Go
set_option maxRecDepth 100000
theorem seatTie1 : Tryd.prog.laidByTextLater [("witting/rewrite.operands", Rows.laid_witting_rewrite_operands), ("witting/rewrite.duals", Rows.laid_witting_rewrite_duals), ("witting/boolean.columns", Rows.laid_witting_boolean_columns)] [.data, .data, .data] true :=
  Program.laidByTextLater_by_one 24 8 23 (by kernel_rfl) (by kernel_rfl) (by kernel_rfl) (by kernel_rfl) (by kernel_rfl) (by kernel_rfl) (fun _ _ => by kernel_rfl)
theorem noOwnUnsafe : Tryd.pinned.checked.prog.headLifts.contains "ownunsafe" = false := by kernel_rfl
theorem tie : Tryd.prog.laidByTextLater [("witting/rewrite.operands", Rows.laid_witting_rewrite_operands), ("witting/rewrite.duals", Rows.laid_witting_rewrite_duals)] [.data, .data] true :=
  Program.laidByTextLater.sub seatTie1 ["witting/rewrite.operands", "witting/rewrite.duals"] (by kernel_rfl) (by kernel_rfl)
theorem rewriteSimplify_row_tie : Rows.rewriteSimplifyRow.laidByTextAt .later Tryd.pinned [.data, .data] true :=
  OpenClaim.laidByTextAt_later rfl rfl tie noOwnUnsafe
theorem rewriteLists_row_tie : Rows.rewriteListsRow.laidByTextAt .later Tryd.pinned [.data, .data] true :=
  OpenClaim.laidByTextAt_later rfl rfl tie noOwnUnsafe
theorem rewriteMeans_row_tie : Rows.rewriteMeansRow.laidByTextAt .later Tryd.pinned [.data, .data] true :=
  OpenClaim.laidByTextAt_later rfl rfl tie noOwnUnsafe
theorem tie2 : Tryd.prog.laidByTextLater [("witting/boolean.columns", Rows.laid_witting_boolean_columns)] [.data] true :=
  Program.laidByTextLater.sub seatTie1 ["witting/boolean.columns"] (by kernel_rfl) (by kernel_rfl)
theorem booleanTables_row_tie : Rows.booleanTablesRow.laidByTextAt .later Tryd.pinned [.data] true :=
  OpenClaim.laidByTextAt_later rfl rfl tie2 noOwnUnsafe
theorem booleanAtoms_row_tie : Rows.booleanAtomsRow.laidByTextAt .later Tryd.pinned [.data] true :=
  OpenClaim.laidByTextAt_later rfl rfl tie2 noOwnUnsafe
theorem booleanTautologies_row_tie : Rows.booleanTautologiesRow.laidByTextAt .later Tryd.pinned [.data] true :=
  OpenClaim.laidByTextAt_later rfl rfl tie2 noOwnUnsafe
theorem booleanPrimes_row_tie : Rows.booleanPrimesRow.laidByTextAt .later Tryd.pinned [.data] true :=
  OpenClaim.laidByTextAt_later rfl rfl tie2 noOwnUnsafe
theorem booleanFull_row_tie : Rows.booleanFullRow.laidByTextAt .later Tryd.pinned [.data] true :=
  OpenClaim.laidByTextAt_later rfl rfl tie2 noOwnUnsafe
theorem booleanCovers_row_tie : Rows.booleanCoversRow.laidByTextAt .later Tryd.pinned [.data] true :=
  OpenClaim.laidByTextAt_later rfl rfl tie2 noOwnUnsafe
theorem booleanModal_row_tie : Rows.booleanModalRow.laidByTextAt .later Tryd.pinned [.data] true :=
  OpenClaim.laidByTextAt_later rfl rfl tie2 noOwnUnsafe
theorem tie3 : Tryd.prog.laidByTextLater [("witting/rewrite.operands", Rows.laid_witting_rewrite_operands), ("witting/boolean.columns", Rows.laid_witting_boolean_columns)] [.data, .data] true :=
  Program.laidByTextLater.sub seatTie1 ["witting/rewrite.operands", "witting/boolean.columns"] (by kernel_rfl) (by kernel_rfl)
theorem booleanBack_row_tie : Rows.booleanBackRow.laidByTextAt .later Tryd.pinned [.data, .data] true :=
  OpenClaim.laidByTextAt_later rfl rfl tie3 noOwnUnsafe
theorem rewriteSimplifyUpto_row_tie : Rows.rewriteSimplifyUptoRow.laidByTextAt .later Tryd.pinned [.data, .data] true :=
  OpenClaim.laidByTextAt_later rfl rfl tie noOwnUnsafe
theorem rewriteListsUpto_row_tie : Rows.rewriteListsUptoRow.laidByTextAt .later Tryd.pinned [.data, .data] true :=
  OpenClaim.laidByTextAt_later rfl rfl tie noOwnUnsafe
theorem rewriteMeansUpto_row_tie : Rows.rewriteMeansUptoRow.laidByTextAt .later Tryd.pinned [.data, .data] true :=
  OpenClaim.laidByTextAt_later rfl rfl tie noOwnUnsafe
theorem booleanTablesUpto_row_tie : Rows.booleanTablesUptoRow.laidByTextAt .later Tryd.pinned [.data] true :=
  OpenClaim.laidByTextAt_later rfl rfl tie2 noOwnUnsafe
theorem booleanAtomsUpto_row_tie : Rows.booleanAtomsUptoRow.laidByTextAt .later Tryd.pinned [.data] true :=
  OpenClaim.laidByTextAt_later rfl rfl tie2 noOwnUnsafe
theorem booleanTautologiesUpto_row_tie : Rows.booleanTautologiesUptoRow.laidByTextAt .later Tryd.pinned [.data] true :=
  OpenClaim.laidByTextAt_later rfl rfl tie2 noOwnUnsafe
theorem booleanPrimesUpto_row_tie : Rows.booleanPrimesUptoRow.laidByTextAt .later Tryd.pinned [.data] true :=
  OpenClaim.laidByTextAt_later rfl rfl tie2 noOwnUnsafe
theorem booleanBackUpto_row_tie : Rows.booleanBackUptoRow.laidByTextAt .later Tryd.pinned [.data, .data] true :=
  OpenClaim.laidByTextAt_later rfl rfl tie3 noOwnUnsafe
theorem booleanFullUpto_row_tie : Rows.booleanFullUptoRow.laidByTextAt .later Tryd.pinned [.data] true :=
  OpenClaim.laidByTextAt_later rfl rfl tie2 noOwnUnsafe
theorem booleanCoversUpto_row_tie : Rows.booleanCoversUptoRow.laidByTextAt .later Tryd.pinned [.data] true :=
  OpenClaim.laidByTextAt_later rfl rfl tie2 noOwnUnsafe
theorem booleanModalUpto_row_tie : Rows.booleanModalUptoRow.laidByTextAt .later Tryd.pinned [.data] true :=
  OpenClaim.laidByTextAt_later rfl rfl tie2 noOwnUnsafe
end Go.Proofs.YtkkkomkljpolbaaDoor
