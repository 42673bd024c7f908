/-
  DERIVED. GIVEN WITH THE SEED: THE CARDS: each row of YtjpmhbnikoggaaaDoorRows.lean that lists a variable, with what it lists TIED to the program's text (the seventh form; the later family's looks); each row that meets fmt, with fmt's text TOLD by the authors' own Lean function (tested against real Go, not proved from fmt's source: count such statements apart). THE CARD IS WHAT COUNTS. Prove the row's statement (the work); the ties are given (YtjpmhbnikoggaaaDoorTie.lean); close each card by the builder's one call (the guide's Derived/Test/ToyasCard.lean, 'card_holds'). Laid BY PROGRAM, IN A SANDBOX (cutbox-door.mjs). By AI agents, Wed Nov 11 2026. No macro, syntax, notation, axiom, sorry.
-/
import Derived.Test.YtjpmhbnikoggaaaDoorRows
import GoSem.ClaimSeven
namespace Go.Proofs.YtjpmhbnikoggaaaDoor
namespace Rows

/-- THE TIED CARD OF 'wittinglaw17.CheckerDuals'. -/
def checkerDualsCard : Claim7 := { stood := { row := checkerDualsRow, standIns := [], harness := (true, "5e3c3a3f8f832f47bb8e0b093c302f8e2072f581b0ceac55be8425cf9430b811"), looks := false }, kinds := [], alts := [], laidByText := true, laidKinds := [.data], laidTests := true, laidLooks := .later }
def CheckerDualsCardSaid : Prop := Claim7.holds Tryd.pinned (.plain (OpenSpec.ofChange checkerDualsSpec)) checkerDualsCard

/-- THE TIED CARD OF 'wittinglaw17.CheckerFixpoint'. -/
def checkerFixpointCard : Claim7 := { stood := { row := checkerFixpointRow, standIns := [], harness := (true, "5e3c3a3f8f832f47bb8e0b093c302f8e2072f581b0ceac55be8425cf9430b811"), looks := false }, kinds := [], alts := [], laidByText := true, laidKinds := [.data], laidTests := true, laidLooks := .later }
def CheckerFixpointCardSaid : Prop := Claim7.holds Tryd.pinned (.plain (OpenSpec.ofChange checkerFixpointSpec)) checkerFixpointCard

/-- THE TIED CARD OF 'wittinglaw17.CheckerPaths'. -/
def checkerPathsCard : Claim7 := { stood := { row := checkerPathsRow, standIns := [], harness := (true, "5e3c3a3f8f832f47bb8e0b093c302f8e2072f581b0ceac55be8425cf9430b811"), looks := false }, kinds := [], alts := [], laidByText := true, laidKinds := [.data], laidTests := true, laidLooks := .later }
def CheckerPathsCardSaid : Prop := Claim7.holds Tryd.pinned (.plain (OpenSpec.ofChange checkerPathsSpec)) checkerPathsCard

/-- THE TIED CARD OF 'wittinglaw17.CheckerLocal'. -/
def checkerLocalCard : Claim7 := { stood := { row := checkerLocalRow, standIns := [], harness := (true, "5e3c3a3f8f832f47bb8e0b093c302f8e2072f581b0ceac55be8425cf9430b811"), looks := false }, kinds := [], alts := [], laidByText := true, laidKinds := [.data], laidTests := true, laidLooks := .later }
def CheckerLocalCardSaid : Prop := Claim7.holds Tryd.pinned (.plain (OpenSpec.ofChange checkerLocalSpec)) checkerLocalCard

/-- THE TIED CARD OF 'wittinglaw17.CheckerAxioms'. -/
def checkerAxiomsCard : Claim7 := { stood := { row := checkerAxiomsRow, standIns := [], harness := (true, "5e3c3a3f8f832f47bb8e0b093c302f8e2072f581b0ceac55be8425cf9430b811"), looks := false }, kinds := [], alts := [], laidByText := true, laidKinds := [.data], laidTests := true, laidLooks := .later }
def CheckerAxiomsCardSaid : Prop := Claim7.holds Tryd.pinned (.plain (OpenSpec.ofChange checkerAxiomsSpec)) checkerAxiomsCard

/-- THE TIED CARD OF 'wittinglaw17.CheckerTables'. -/
def checkerTablesCard : Claim7 := { stood := { row := checkerTablesRow, standIns := [], harness := (true, "5e3c3a3f8f832f47bb8e0b093c302f8e2072f581b0ceac55be8425cf9430b811"), looks := false }, kinds := [], alts := [], laidByText := true, laidKinds := [.data], laidTests := true, laidLooks := .later }
def CheckerTablesCardSaid : Prop := Claim7.holds Tryd.pinned (.plain (OpenSpec.ofChange checkerTablesSpec)) checkerTablesCard

/-- THE SECOND FORM's CARD OF 'wittinglaw17.CheckerDuals'. -/
def checkerDualsUptoCard : Claim7 := { stood := { row := checkerDualsUptoRow, standIns := [], harness := (true, "5e3c3a3f8f832f47bb8e0b093c302f8e2072f581b0ceac55be8425cf9430b811"), looks := false }, kinds := [], alts := [], laidByText := true, laidKinds := [.data], laidTests := true, laidLooks := .later }
def CheckerDualsUptoCardSaid : Prop := Claim7.holds Tryd.pinned (.plain (OpenSpec.upto checkerDualsSpec)) checkerDualsUptoCard

/-- THE SECOND FORM's CARD OF 'wittinglaw17.CheckerFixpoint'. -/
def checkerFixpointUptoCard : Claim7 := { stood := { row := checkerFixpointUptoRow, standIns := [], harness := (true, "5e3c3a3f8f832f47bb8e0b093c302f8e2072f581b0ceac55be8425cf9430b811"), looks := false }, kinds := [], alts := [], laidByText := true, laidKinds := [.data], laidTests := true, laidLooks := .later }
def CheckerFixpointUptoCardSaid : Prop := Claim7.holds Tryd.pinned (.plain (OpenSpec.upto checkerFixpointSpec)) checkerFixpointUptoCard

/-- THE SECOND FORM's CARD OF 'wittinglaw17.CheckerPaths'. -/
def checkerPathsUptoCard : Claim7 := { stood := { row := checkerPathsUptoRow, standIns := [], harness := (true, "5e3c3a3f8f832f47bb8e0b093c302f8e2072f581b0ceac55be8425cf9430b811"), looks := false }, kinds := [], alts := [], laidByText := true, laidKinds := [.data], laidTests := true, laidLooks := .later }
def CheckerPathsUptoCardSaid : Prop := Claim7.holds Tryd.pinned (.plain (OpenSpec.upto checkerPathsSpec)) checkerPathsUptoCard

/-- THE SECOND FORM's CARD OF 'wittinglaw17.CheckerLocal'. -/
def checkerLocalUptoCard : Claim7 := { stood := { row := checkerLocalUptoRow, standIns := [], harness := (true, "5e3c3a3f8f832f47bb8e0b093c302f8e2072f581b0ceac55be8425cf9430b811"), looks := false }, kinds := [], alts := [], laidByText := true, laidKinds := [.data], laidTests := true, laidLooks := .later }
def CheckerLocalUptoCardSaid : Prop := Claim7.holds Tryd.pinned (.plain (OpenSpec.upto checkerLocalSpec)) checkerLocalUptoCard

/-- THE SECOND FORM's CARD OF 'wittinglaw17.CheckerAxioms'. -/
def checkerAxiomsUptoCard : Claim7 := { stood := { row := checkerAxiomsUptoRow, standIns := [], harness := (true, "5e3c3a3f8f832f47bb8e0b093c302f8e2072f581b0ceac55be8425cf9430b811"), looks := false }, kinds := [], alts := [], laidByText := true, laidKinds := [.data], laidTests := true, laidLooks := .later }
def CheckerAxiomsUptoCardSaid : Prop := Claim7.holds Tryd.pinned (.plain (OpenSpec.upto checkerAxiomsSpec)) checkerAxiomsUptoCard

/-- THE SECOND FORM's CARD OF 'wittinglaw17.CheckerTables'. -/
def checkerTablesUptoCard : Claim7 := { stood := { row := checkerTablesUptoRow, standIns := [], harness := (true, "5e3c3a3f8f832f47bb8e0b093c302f8e2072f581b0ceac55be8425cf9430b811"), looks := false }, kinds := [], alts := [], laidByText := true, laidKinds := [.data], laidTests := true, laidLooks := .later }
def CheckerTablesUptoCardSaid : Prop := Claim7.holds Tryd.pinned (.plain (OpenSpec.upto checkerTablesSpec)) checkerTablesUptoCard
end Rows
end Go.Proofs.YtjpmhbnikoggaaaDoor
