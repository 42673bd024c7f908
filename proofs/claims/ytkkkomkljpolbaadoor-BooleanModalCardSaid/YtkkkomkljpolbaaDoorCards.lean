/-
  DERIVED. GIVEN WITH THE SEED: THE CARDS: each row of YtkkkomkljpolbaaDoorRows.lean that lists a variable, with what it lists TIED to the program's text (the seventh form; the later family's looks); each row that meets fmt, with fmt's text TOLD by the authors' own Lean function (tested against real Go, not proved from fmt's source: count such statements apart). THE CARD IS WHAT COUNTS. Prove the row's statement (the work); the ties are given (YtkkkomkljpolbaaDoorTie.lean); close each card by the builder's one call (the guide's Derived/Test/ToyasCard.lean, 'card_holds'). Laid BY PROGRAM, IN A SANDBOX (cutbox-door.mjs). By AI agents, Wed Nov 11 2026. No macro, syntax, notation, axiom, sorry.
-/
import Derived.Test.YtkkkomkljpolbaaDoorRows
import GoSem.ClaimSeven
namespace Go.Proofs.YtkkkomkljpolbaaDoor
namespace Rows

/-- THE TIED CARD OF 'wittinglaw08.RewriteSimplify'. -/
def rewriteSimplifyCard : Claim7 := { stood := { row := rewriteSimplifyRow, standIns := [], harness := (true, "57eefe12494e1c1587b5de80ad3cfa717239e021f0290e9aa5829cec858e75d5"), looks := false }, kinds := [], alts := [], laidByText := true, laidKinds := [.data, .data], laidTests := true, laidLooks := .later }
def RewriteSimplifyCardSaid : Prop := Claim7.holds Tryd.pinned (.plain (OpenSpec.ofChange rewriteSimplifySpec)) rewriteSimplifyCard

/-- THE TIED CARD OF 'wittinglaw08.RewriteLists'. -/
def rewriteListsCard : Claim7 := { stood := { row := rewriteListsRow, standIns := [], harness := (true, "57eefe12494e1c1587b5de80ad3cfa717239e021f0290e9aa5829cec858e75d5"), looks := false }, kinds := [], alts := [], laidByText := true, laidKinds := [.data, .data], laidTests := true, laidLooks := .later }
def RewriteListsCardSaid : Prop := Claim7.holds Tryd.pinned (.plain (OpenSpec.ofChange rewriteListsSpec)) rewriteListsCard

/-- THE TIED CARD OF 'wittinglaw08.RewriteMeans'. -/
def rewriteMeansCard : Claim7 := { stood := { row := rewriteMeansRow, standIns := [], harness := (true, "57eefe12494e1c1587b5de80ad3cfa717239e021f0290e9aa5829cec858e75d5"), looks := false }, kinds := [], alts := [], laidByText := true, laidKinds := [.data, .data], laidTests := true, laidLooks := .later }
def RewriteMeansCardSaid : Prop := Claim7.holds Tryd.pinned (.plain (OpenSpec.ofChange rewriteMeansSpec)) rewriteMeansCard

/-- THE TIED CARD OF 'wittinglaw09.BooleanTables'. -/
def booleanTablesCard : Claim7 := { stood := { row := booleanTablesRow, standIns := [], harness := (true, "57eefe12494e1c1587b5de80ad3cfa717239e021f0290e9aa5829cec858e75d5"), looks := false }, kinds := [], alts := [], laidByText := true, laidKinds := [.data], laidTests := true, laidLooks := .later }
def BooleanTablesCardSaid : Prop := Claim7.holds Tryd.pinned (.plain (OpenSpec.ofChange booleanTablesSpec)) booleanTablesCard

/-- THE TIED CARD OF 'wittinglaw09.BooleanAtoms'. -/
def booleanAtomsCard : Claim7 := { stood := { row := booleanAtomsRow, standIns := [], harness := (true, "57eefe12494e1c1587b5de80ad3cfa717239e021f0290e9aa5829cec858e75d5"), looks := false }, kinds := [], alts := [], laidByText := true, laidKinds := [.data], laidTests := true, laidLooks := .later }
def BooleanAtomsCardSaid : Prop := Claim7.holds Tryd.pinned (.plain (OpenSpec.ofChange booleanAtomsSpec)) booleanAtomsCard

/-- THE TIED CARD OF 'wittinglaw09.BooleanTautologies'. -/
def booleanTautologiesCard : Claim7 := { stood := { row := booleanTautologiesRow, standIns := [], harness := (true, "57eefe12494e1c1587b5de80ad3cfa717239e021f0290e9aa5829cec858e75d5"), looks := false }, kinds := [], alts := [], laidByText := true, laidKinds := [.data], laidTests := true, laidLooks := .later }
def BooleanTautologiesCardSaid : Prop := Claim7.holds Tryd.pinned (.plain (OpenSpec.ofChange booleanTautologiesSpec)) booleanTautologiesCard

/-- THE TIED CARD OF 'wittinglaw09.BooleanPrimes'. -/
def booleanPrimesCard : Claim7 := { stood := { row := booleanPrimesRow, standIns := [], harness := (true, "57eefe12494e1c1587b5de80ad3cfa717239e021f0290e9aa5829cec858e75d5"), looks := false }, kinds := [], alts := [], laidByText := true, laidKinds := [.data], laidTests := true, laidLooks := .later }
def BooleanPrimesCardSaid : Prop := Claim7.holds Tryd.pinned (.plain (OpenSpec.ofChange booleanPrimesSpec)) booleanPrimesCard

/-- THE TIED CARD OF 'wittinglaw09.BooleanBack'. -/
def booleanBackCard : Claim7 := { stood := { row := booleanBackRow, standIns := [], harness := (true, "57eefe12494e1c1587b5de80ad3cfa717239e021f0290e9aa5829cec858e75d5"), looks := false }, kinds := [], alts := [], laidByText := true, laidKinds := [.data, .data], laidTests := true, laidLooks := .later }
def BooleanBackCardSaid : Prop := Claim7.holds Tryd.pinned (.plain (OpenSpec.ofChange booleanBackSpec)) booleanBackCard

/-- THE TIED CARD OF 'wittinglaw09.BooleanFull'. -/
def booleanFullCard : Claim7 := { stood := { row := booleanFullRow, standIns := [], harness := (true, "57eefe12494e1c1587b5de80ad3cfa717239e021f0290e9aa5829cec858e75d5"), looks := false }, kinds := [], alts := [], laidByText := true, laidKinds := [.data], laidTests := true, laidLooks := .later }
def BooleanFullCardSaid : Prop := Claim7.holds Tryd.pinned (.plain (OpenSpec.ofChange booleanFullSpec)) booleanFullCard

/-- THE TIED CARD OF 'wittinglaw09.BooleanCovers'. -/
def booleanCoversCard : Claim7 := { stood := { row := booleanCoversRow, standIns := [], harness := (true, "57eefe12494e1c1587b5de80ad3cfa717239e021f0290e9aa5829cec858e75d5"), looks := false }, kinds := [], alts := [], laidByText := true, laidKinds := [.data], laidTests := true, laidLooks := .later }
def BooleanCoversCardSaid : Prop := Claim7.holds Tryd.pinned (.plain (OpenSpec.ofChange booleanCoversSpec)) booleanCoversCard

/-- THE TIED CARD OF 'wittinglaw09.BooleanModal'. -/
def booleanModalCard : Claim7 := { stood := { row := booleanModalRow, standIns := [], harness := (true, "57eefe12494e1c1587b5de80ad3cfa717239e021f0290e9aa5829cec858e75d5"), looks := false }, kinds := [], alts := [], laidByText := true, laidKinds := [.data], laidTests := true, laidLooks := .later }
def BooleanModalCardSaid : Prop := Claim7.holds Tryd.pinned (.plain (OpenSpec.ofChange booleanModalSpec)) booleanModalCard

/-- THE SECOND FORM's CARD OF 'wittinglaw08.RewriteSimplify'. -/
def rewriteSimplifyUptoCard : Claim7 := { stood := { row := rewriteSimplifyUptoRow, standIns := [], harness := (true, "57eefe12494e1c1587b5de80ad3cfa717239e021f0290e9aa5829cec858e75d5"), looks := false }, kinds := [], alts := [], laidByText := true, laidKinds := [.data, .data], laidTests := true, laidLooks := .later }
def RewriteSimplifyUptoCardSaid : Prop := Claim7.holds Tryd.pinned (.plain (OpenSpec.upto rewriteSimplifySpec)) rewriteSimplifyUptoCard

/-- THE SECOND FORM's CARD OF 'wittinglaw08.RewriteLists'. -/
def rewriteListsUptoCard : Claim7 := { stood := { row := rewriteListsUptoRow, standIns := [], harness := (true, "57eefe12494e1c1587b5de80ad3cfa717239e021f0290e9aa5829cec858e75d5"), looks := false }, kinds := [], alts := [], laidByText := true, laidKinds := [.data, .data], laidTests := true, laidLooks := .later }
def RewriteListsUptoCardSaid : Prop := Claim7.holds Tryd.pinned (.plain (OpenSpec.upto rewriteListsSpec)) rewriteListsUptoCard

/-- THE SECOND FORM's CARD OF 'wittinglaw08.RewriteMeans'. -/
def rewriteMeansUptoCard : Claim7 := { stood := { row := rewriteMeansUptoRow, standIns := [], harness := (true, "57eefe12494e1c1587b5de80ad3cfa717239e021f0290e9aa5829cec858e75d5"), looks := false }, kinds := [], alts := [], laidByText := true, laidKinds := [.data, .data], laidTests := true, laidLooks := .later }
def RewriteMeansUptoCardSaid : Prop := Claim7.holds Tryd.pinned (.plain (OpenSpec.upto rewriteMeansSpec)) rewriteMeansUptoCard

/-- THE SECOND FORM's CARD OF 'wittinglaw09.BooleanTables'. -/
def booleanTablesUptoCard : Claim7 := { stood := { row := booleanTablesUptoRow, standIns := [], harness := (true, "57eefe12494e1c1587b5de80ad3cfa717239e021f0290e9aa5829cec858e75d5"), looks := false }, kinds := [], alts := [], laidByText := true, laidKinds := [.data], laidTests := true, laidLooks := .later }
def BooleanTablesUptoCardSaid : Prop := Claim7.holds Tryd.pinned (.plain (OpenSpec.upto booleanTablesSpec)) booleanTablesUptoCard

/-- THE SECOND FORM's CARD OF 'wittinglaw09.BooleanAtoms'. -/
def booleanAtomsUptoCard : Claim7 := { stood := { row := booleanAtomsUptoRow, standIns := [], harness := (true, "57eefe12494e1c1587b5de80ad3cfa717239e021f0290e9aa5829cec858e75d5"), looks := false }, kinds := [], alts := [], laidByText := true, laidKinds := [.data], laidTests := true, laidLooks := .later }
def BooleanAtomsUptoCardSaid : Prop := Claim7.holds Tryd.pinned (.plain (OpenSpec.upto booleanAtomsSpec)) booleanAtomsUptoCard

/-- THE SECOND FORM's CARD OF 'wittinglaw09.BooleanTautologies'. -/
def booleanTautologiesUptoCard : Claim7 := { stood := { row := booleanTautologiesUptoRow, standIns := [], harness := (true, "57eefe12494e1c1587b5de80ad3cfa717239e021f0290e9aa5829cec858e75d5"), looks := false }, kinds := [], alts := [], laidByText := true, laidKinds := [.data], laidTests := true, laidLooks := .later }
def BooleanTautologiesUptoCardSaid : Prop := Claim7.holds Tryd.pinned (.plain (OpenSpec.upto booleanTautologiesSpec)) booleanTautologiesUptoCard

/-- THE SECOND FORM's CARD OF 'wittinglaw09.BooleanPrimes'. -/
def booleanPrimesUptoCard : Claim7 := { stood := { row := booleanPrimesUptoRow, standIns := [], harness := (true, "57eefe12494e1c1587b5de80ad3cfa717239e021f0290e9aa5829cec858e75d5"), looks := false }, kinds := [], alts := [], laidByText := true, laidKinds := [.data], laidTests := true, laidLooks := .later }
def BooleanPrimesUptoCardSaid : Prop := Claim7.holds Tryd.pinned (.plain (OpenSpec.upto booleanPrimesSpec)) booleanPrimesUptoCard

/-- THE SECOND FORM's CARD OF 'wittinglaw09.BooleanBack'. -/
def booleanBackUptoCard : Claim7 := { stood := { row := booleanBackUptoRow, standIns := [], harness := (true, "57eefe12494e1c1587b5de80ad3cfa717239e021f0290e9aa5829cec858e75d5"), looks := false }, kinds := [], alts := [], laidByText := true, laidKinds := [.data, .data], laidTests := true, laidLooks := .later }
def BooleanBackUptoCardSaid : Prop := Claim7.holds Tryd.pinned (.plain (OpenSpec.upto booleanBackSpec)) booleanBackUptoCard

/-- THE SECOND FORM's CARD OF 'wittinglaw09.BooleanFull'. -/
def booleanFullUptoCard : Claim7 := { stood := { row := booleanFullUptoRow, standIns := [], harness := (true, "57eefe12494e1c1587b5de80ad3cfa717239e021f0290e9aa5829cec858e75d5"), looks := false }, kinds := [], alts := [], laidByText := true, laidKinds := [.data], laidTests := true, laidLooks := .later }
def BooleanFullUptoCardSaid : Prop := Claim7.holds Tryd.pinned (.plain (OpenSpec.upto booleanFullSpec)) booleanFullUptoCard

/-- THE SECOND FORM's CARD OF 'wittinglaw09.BooleanCovers'. -/
def booleanCoversUptoCard : Claim7 := { stood := { row := booleanCoversUptoRow, standIns := [], harness := (true, "57eefe12494e1c1587b5de80ad3cfa717239e021f0290e9aa5829cec858e75d5"), looks := false }, kinds := [], alts := [], laidByText := true, laidKinds := [.data], laidTests := true, laidLooks := .later }
def BooleanCoversUptoCardSaid : Prop := Claim7.holds Tryd.pinned (.plain (OpenSpec.upto booleanCoversSpec)) booleanCoversUptoCard

/-- THE SECOND FORM's CARD OF 'wittinglaw09.BooleanModal'. -/
def booleanModalUptoCard : Claim7 := { stood := { row := booleanModalUptoRow, standIns := [], harness := (true, "57eefe12494e1c1587b5de80ad3cfa717239e021f0290e9aa5829cec858e75d5"), looks := false }, kinds := [], alts := [], laidByText := true, laidKinds := [.data], laidTests := true, laidLooks := .later }
def BooleanModalUptoCardSaid : Prop := Claim7.holds Tryd.pinned (.plain (OpenSpec.upto booleanModalSpec)) booleanModalUptoCard
end Rows
end Go.Proofs.YtkkkomkljpolbaaDoor
