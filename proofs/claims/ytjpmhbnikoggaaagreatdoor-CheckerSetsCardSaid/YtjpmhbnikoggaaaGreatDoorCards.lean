/-
  DERIVED. GIVEN WITH THE SEED: THE CARDS: each row of YtjpmhbnikoggaaaGreatDoorRows.lean that lists a variable, with what it lists TIED to the program's text (the seventh form; the later family's looks); each row that meets fmt, with fmt's text TOLD by the authors' own Lean function (tested against real Go, not proved from fmt's source: count such statements apart). THE CARD IS WHAT COUNTS. Prove the row's statement (the work); the ties are given (YtjpmhbnikoggaaaGreatDoorTie.lean); close each card by the builder's one call (the guide's Derived/Test/ToyasCard.lean, 'card_holds'). Laid BY PROGRAM, IN A SANDBOX (cutbox-door.mjs). By AI agents, Wed Nov 11 2026. No macro, syntax, notation, axiom, sorry.
-/
import Derived.Test.YtjpmhbnikoggaaaGreatDoorRows
import GoSem.ClaimSeven
namespace Go.Proofs.YtjpmhbnikoggaaaGreatDoor
namespace Rows

/-- THE TIED CARD OF 'wittinglaw15.FramesHas'. -/
def framesHasCard : Claim7 := { stood := { row := framesHasRow, standIns := [], harness := (true, "ee974e37d4cf351503c34c7cb6a1de5641c964898464d2c68208d513e97154ec"), looks := false }, kinds := [], alts := [], laidByText := true, laidKinds := [.data], laidTests := true, laidLooks := .later }
def FramesHasCardSaid : Prop := Claim7.holds Tryz.pinned (.plain (OpenSpec.ofChange framesHasSpec)) framesHasCard

/-- THE TIED CARD OF 'wittinglaw15.FramesAxioms'. -/
def framesAxiomsCard : Claim7 := { stood := { row := framesAxiomsRow, standIns := [], harness := (true, "ee974e37d4cf351503c34c7cb6a1de5641c964898464d2c68208d513e97154ec"), looks := false }, kinds := [], alts := [], laidByText := true, laidKinds := [.data], laidTests := true, laidLooks := .later }
def FramesAxiomsCardSaid : Prop := Claim7.holds Tryz.pinned (.plain (OpenSpec.ofChange framesAxiomsSpec)) framesAxiomsCard

/-- THE TIED CARD OF 'wittinglaw17.CheckerHolds'. -/
def checkerHoldsCard : Claim7 := { stood := { row := checkerHoldsRow, standIns := [], harness := (true, "ee974e37d4cf351503c34c7cb6a1de5641c964898464d2c68208d513e97154ec"), looks := false }, kinds := [], alts := [], laidByText := true, laidKinds := [.data], laidTests := true, laidLooks := .later }
def CheckerHoldsCardSaid : Prop := Claim7.holds Tryz.pinned (.plain (OpenSpec.ofChange checkerHoldsSpec)) checkerHoldsCard

/-- THE TIED CARD OF 'wittinglaw17.CheckerSets'. -/
def checkerSetsCard : Claim7 := { stood := { row := checkerSetsRow, standIns := [], harness := (true, "ee974e37d4cf351503c34c7cb6a1de5641c964898464d2c68208d513e97154ec"), looks := false }, kinds := [], alts := [], laidByText := true, laidKinds := [.data], laidTests := true, laidLooks := .later }
def CheckerSetsCardSaid : Prop := Claim7.holds Tryz.pinned (.plain (OpenSpec.ofChange checkerSetsSpec)) checkerSetsCard

/-- THE SECOND FORM's CARD OF 'wittinglaw15.FramesHas'. -/
def framesHasUptoCard : Claim7 := { stood := { row := framesHasUptoRow, standIns := [], harness := (true, "ee974e37d4cf351503c34c7cb6a1de5641c964898464d2c68208d513e97154ec"), looks := false }, kinds := [], alts := [], laidByText := true, laidKinds := [.data], laidTests := true, laidLooks := .later }
def FramesHasUptoCardSaid : Prop := Claim7.holds Tryz.pinned (.plain (OpenSpec.upto framesHasSpec)) framesHasUptoCard

/-- THE SECOND FORM's CARD OF 'wittinglaw15.FramesAxioms'. -/
def framesAxiomsUptoCard : Claim7 := { stood := { row := framesAxiomsUptoRow, standIns := [], harness := (true, "ee974e37d4cf351503c34c7cb6a1de5641c964898464d2c68208d513e97154ec"), looks := false }, kinds := [], alts := [], laidByText := true, laidKinds := [.data], laidTests := true, laidLooks := .later }
def FramesAxiomsUptoCardSaid : Prop := Claim7.holds Tryz.pinned (.plain (OpenSpec.upto framesAxiomsSpec)) framesAxiomsUptoCard

/-- THE SECOND FORM's CARD OF 'wittinglaw17.CheckerHolds'. -/
def checkerHoldsUptoCard : Claim7 := { stood := { row := checkerHoldsUptoRow, standIns := [], harness := (true, "ee974e37d4cf351503c34c7cb6a1de5641c964898464d2c68208d513e97154ec"), looks := false }, kinds := [], alts := [], laidByText := true, laidKinds := [.data], laidTests := true, laidLooks := .later }
def CheckerHoldsUptoCardSaid : Prop := Claim7.holds Tryz.pinned (.plain (OpenSpec.upto checkerHoldsSpec)) checkerHoldsUptoCard

/-- THE SECOND FORM's CARD OF 'wittinglaw17.CheckerSets'. -/
def checkerSetsUptoCard : Claim7 := { stood := { row := checkerSetsUptoRow, standIns := [], harness := (true, "ee974e37d4cf351503c34c7cb6a1de5641c964898464d2c68208d513e97154ec"), looks := false }, kinds := [], alts := [], laidByText := true, laidKinds := [.data], laidTests := true, laidLooks := .later }
def CheckerSetsUptoCardSaid : Prop := Claim7.holds Tryz.pinned (.plain (OpenSpec.upto checkerSetsSpec)) checkerSetsUptoCard
end Rows
end Go.Proofs.YtjpmhbnikoggaaaGreatDoor
