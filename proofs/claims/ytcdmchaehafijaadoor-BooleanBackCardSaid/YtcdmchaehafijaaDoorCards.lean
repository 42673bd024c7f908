/-
  DERIVED. GIVEN WITH THE SEED: THE CARDS: each row of YtcdmchaehafijaaDoorRows.lean that lists a variable, with what it lists TIED to the program's text (the seventh form; the later family's looks); each row that meets fmt, with fmt's text TOLD by the authors' own Lean function (tested against real Go, not proved from fmt's source: count such statements apart). THE CARD IS WHAT COUNTS. Prove the row's statement (the work); the ties are given (YtcdmchaehafijaaDoorTie.lean); close each card by the builder's one call (the guide's Derived/Test/ToyasCard.lean, 'card_holds'). Laid BY PROGRAM, IN A SANDBOX (cutbox-door.mjs). By AI agents, Wed Nov 11 2026. No macro, syntax, notation, axiom, sorry.
-/
import Derived.Test.YtcdmchaehafijaaDoorRows
import GoSem.ClaimSeven
namespace Go.Proofs.YtcdmchaehafijaaDoor
namespace Rows

/-- THE TIED CARD OF 'wittinglaw09.BooleanBack'. -/
def booleanBackCard : Claim7 := { stood := { row := booleanBackRow, standIns := [], harness := (true, "ee734f4e3643c6adb01e258f75c440a4bb5561b1585edbbc7798a0d64db24b54"), looks := false }, kinds := [], alts := [], laidByText := true, laidKinds := [.data, .data], laidTests := true, laidLooks := .later }
def BooleanBackCardSaid : Prop := Claim7.holds Tryd.pinned (.plain (OpenSpec.ofChange booleanBackSpec)) booleanBackCard

/-- THE SECOND FORM's CARD OF 'wittinglaw09.BooleanBack'. -/
def booleanBackUptoCard : Claim7 := { stood := { row := booleanBackUptoRow, standIns := [], harness := (true, "ee734f4e3643c6adb01e258f75c440a4bb5561b1585edbbc7798a0d64db24b54"), looks := false }, kinds := [], alts := [], laidByText := true, laidKinds := [.data, .data], laidTests := true, laidLooks := .later }
def BooleanBackUptoCardSaid : Prop := Claim7.holds Tryd.pinned (.plain (OpenSpec.upto booleanBackSpec)) booleanBackUptoCard
end Rows
end Go.Proofs.YtcdmchaehafijaaDoor
