/-
  DERIVED. GIVEN WITH THE SEED: THE CARDS: each row of YtopkmcoblndokaaDoorRows.lean that lists a variable, with what it lists TIED to the program's text (the seventh form; the later family's looks); each row that meets fmt, with fmt's text TOLD by the authors' own Lean function (tested against real Go, not proved from fmt's source: count such statements apart). THE CARD IS WHAT COUNTS. Prove the row's statement (the work); the ties are given (YtopkmcoblndokaaDoorTie.lean); close each card by the builder's one call (the guide's Derived/Test/ToyasCard.lean, 'card_holds'). Laid BY PROGRAM, IN A SANDBOX (cutbox-door.mjs). By AI agents, Wed Nov 11 2026. No macro, syntax, notation, axiom, sorry.
-/
import Derived.Test.YtopkmcoblndokaaDoorRows
import GoSem.ClaimSeven
namespace Go.Proofs.YtopkmcoblndokaaDoor
namespace Rows

/-- THE TIED CARD OF 'wittinglaw10.ResolutionTables'. -/
def resolutionTablesCard : Claim7 := { stood := { row := resolutionTablesRow, standIns := [], harness := (true, "3bb3896445d2665624411768489d4fbcc4b1acd05bc65ff980f254330dd78bd7"), looks := false }, kinds := [], alts := [], laidByText := true, laidKinds := [.data], laidTests := true, laidLooks := .later }
def ResolutionTablesCardSaid : Prop := Claim7.holds Tryd.pinned (.plain (OpenSpec.ofChange resolutionTablesSpec)) resolutionTablesCard

/-- THE SECOND FORM's CARD OF 'wittinglaw10.ResolutionTables'. -/
def resolutionTablesUptoCard : Claim7 := { stood := { row := resolutionTablesUptoRow, standIns := [], harness := (true, "3bb3896445d2665624411768489d4fbcc4b1acd05bc65ff980f254330dd78bd7"), looks := false }, kinds := [], alts := [], laidByText := true, laidKinds := [.data], laidTests := true, laidLooks := .later }
def ResolutionTablesUptoCardSaid : Prop := Claim7.holds Tryd.pinned (.plain (OpenSpec.upto resolutionTablesSpec)) resolutionTablesUptoCard
end Rows
end Go.Proofs.YtopkmcoblndokaaDoor
