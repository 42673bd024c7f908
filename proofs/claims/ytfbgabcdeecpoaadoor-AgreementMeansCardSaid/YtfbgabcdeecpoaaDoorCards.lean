/-
  DERIVED. GIVEN WITH THE SEED: THE CARDS: each row of YtfbgabcdeecpoaaDoorRows.lean that lists a variable, with what it lists TIED to the program's text (the seventh form; the later family's looks); each row that meets fmt, with fmt's text TOLD by the authors' own Lean function (tested against real Go, not proved from fmt's source: count such statements apart). THE CARD IS WHAT COUNTS. Prove the row's statement (the work); the ties are given (YtfbgabcdeecpoaaDoorTie.lean); close each card by the builder's one call (the guide's Derived/Test/ToyasCard.lean, 'card_holds'). Laid BY PROGRAM, IN A SANDBOX (cutbox-door.mjs). By AI agents, Wed Nov 11 2026. No macro, syntax, notation, axiom, sorry.
-/
import Derived.Test.YtfbgabcdeecpoaaDoorRows
import GoSem.ClaimSeven
namespace Go.Proofs.YtfbgabcdeecpoaaDoor
namespace Rows

/-- THE TIED CARD OF 'wittinglaw24.AgreementChecks'. -/
def agreementChecksCard : Claim7 := { stood := { row := agreementChecksRow, standIns := [], harness := (true, "f88c45963734ece8e7a97354b01917fbaa36ceb2e205255ae89a73c6fe6d734b"), looks := false }, kinds := [], alts := [], laidByText := true, laidKinds := [.data, .widerDeep], laidTests := true, laidLooks := .later }
def AgreementChecksCardSaid : Prop := Claim7.holds Tryd.pinned (.plain (OpenSpec.ofChange agreementChecksSpec)) agreementChecksCard

/-- THE TIED CARD OF 'wittinglaw24.AgreementPosteriors'. -/
def agreementPosteriorsCard : Claim7 := { stood := { row := agreementPosteriorsRow, standIns := [], harness := (true, "f88c45963734ece8e7a97354b01917fbaa36ceb2e205255ae89a73c6fe6d734b"), looks := false }, kinds := [], alts := [], laidByText := true, laidKinds := [.data, .widerDeep], laidTests := true, laidLooks := .later }
def AgreementPosteriorsCardSaid : Prop := Claim7.holds Tryd.pinned (.plain (OpenSpec.ofChange agreementPosteriorsSpec)) agreementPosteriorsCard

/-- THE TIED CARD OF 'wittinglaw24.AgreementTells'. -/
def agreementTellsCard : Claim7 := { stood := { row := agreementTellsRow, standIns := [], harness := (true, "f88c45963734ece8e7a97354b01917fbaa36ceb2e205255ae89a73c6fe6d734b"), looks := false }, kinds := [], alts := [], laidByText := true, laidKinds := [.data, .widerDeep], laidTests := true, laidLooks := .later }
def AgreementTellsCardSaid : Prop := Claim7.holds Tryd.pinned (.plain (OpenSpec.ofChange agreementTellsSpec)) agreementTellsCard

/-- THE TIED CARD OF 'wittinglaw24.AgreementExchanges'. -/
def agreementExchangesCard : Claim7 := { stood := { row := agreementExchangesRow, standIns := [], harness := (true, "f88c45963734ece8e7a97354b01917fbaa36ceb2e205255ae89a73c6fe6d734b"), looks := false }, kinds := [], alts := [], laidByText := true, laidKinds := [.data, .widerDeep], laidTests := true, laidLooks := .later }
def AgreementExchangesCardSaid : Prop := Claim7.holds Tryd.pinned (.plain (OpenSpec.ofChange agreementExchangesSpec)) agreementExchangesCard

/-- THE TIED CARD OF 'wittinglaw24.AgreementEnds'. -/
def agreementEndsCard : Claim7 := { stood := { row := agreementEndsRow, standIns := [], harness := (true, "f88c45963734ece8e7a97354b01917fbaa36ceb2e205255ae89a73c6fe6d734b"), looks := false }, kinds := [], alts := [], laidByText := true, laidKinds := [.data, .widerDeep], laidTests := true, laidLooks := .later }
def AgreementEndsCardSaid : Prop := Claim7.holds Tryd.pinned (.plain (OpenSpec.ofChange agreementEndsSpec)) agreementEndsCard

/-- THE TIED CARD OF 'wittinglaw24.AgreementCannot'. -/
def agreementCannotCard : Claim7 := { stood := { row := agreementCannotRow, standIns := [], harness := (true, "f88c45963734ece8e7a97354b01917fbaa36ceb2e205255ae89a73c6fe6d734b"), looks := false }, kinds := [], alts := [], laidByText := true, laidKinds := [.data, .widerDeep], laidTests := true, laidLooks := .later }
def AgreementCannotCardSaid : Prop := Claim7.holds Tryd.pinned (.plain (OpenSpec.ofChange agreementCannotSpec)) agreementCannotCard

/-- THE TIED CARD OF 'wittinglaw24.AgreementMeans'. -/
def agreementMeansCard : Claim7 := { stood := { row := agreementMeansRow, standIns := [], harness := (true, "f88c45963734ece8e7a97354b01917fbaa36ceb2e205255ae89a73c6fe6d734b"), looks := false }, kinds := [], alts := [], laidByText := true, laidKinds := [.data, .widerDeep], laidTests := true, laidLooks := .later }
def AgreementMeansCardSaid : Prop := Claim7.holds Tryd.pinned (.plain (OpenSpec.ofChange agreementMeansSpec)) agreementMeansCard

/-- THE TIED CARD OF 'wittinglaw24.AgreementDivides'. -/
def agreementDividesCard : Claim7 := { stood := { row := agreementDividesRow, standIns := [], harness := (true, "f88c45963734ece8e7a97354b01917fbaa36ceb2e205255ae89a73c6fe6d734b"), looks := false }, kinds := [], alts := [], laidByText := true, laidKinds := [.data, .widerDeep], laidTests := true, laidLooks := .later }
def AgreementDividesCardSaid : Prop := Claim7.holds Tryd.pinned (.plain (OpenSpec.ofChange agreementDividesSpec)) agreementDividesCard

/-- THE TIED CARD OF 'wittingtop.TopCommonReached'. -/
def topCommonReachedCard : Claim7 := { stood := { row := topCommonReachedRow, standIns := [], harness := (true, "f88c45963734ece8e7a97354b01917fbaa36ceb2e205255ae89a73c6fe6d734b"), looks := false }, kinds := [], alts := [], laidByText := true, laidKinds := [.data, .widerDeep], laidTests := true, laidLooks := .later }
def TopCommonReachedCardSaid : Prop := Claim7.holds Tryd.pinned (.plain (OpenSpec.ofChange topCommonReachedSpec)) topCommonReachedCard

/-- THE TIED CARD OF 'wittingtop.TopAgreedValue'. -/
def topAgreedValueCard : Claim7 := { stood := { row := topAgreedValueRow, standIns := [], harness := (true, "f88c45963734ece8e7a97354b01917fbaa36ceb2e205255ae89a73c6fe6d734b"), looks := false }, kinds := [], alts := [], laidByText := true, laidKinds := [.data, .widerDeep], laidTests := true, laidLooks := .later }
def TopAgreedValueCardSaid : Prop := Claim7.holds Tryd.pinned (.plain (OpenSpec.ofChange topAgreedValueSpec)) topAgreedValueCard

/-- THE SECOND FORM's CARD OF 'wittinglaw24.AgreementChecks'. -/
def agreementChecksUptoCard : Claim7 := { stood := { row := agreementChecksUptoRow, standIns := [], harness := (true, "f88c45963734ece8e7a97354b01917fbaa36ceb2e205255ae89a73c6fe6d734b"), looks := false }, kinds := [], alts := [], laidByText := true, laidKinds := [.data, .widerDeep], laidTests := true, laidLooks := .later }
def AgreementChecksUptoCardSaid : Prop := Claim7.holds Tryd.pinned (.plain (OpenSpec.upto agreementChecksSpec)) agreementChecksUptoCard

/-- THE SECOND FORM's CARD OF 'wittinglaw24.AgreementPosteriors'. -/
def agreementPosteriorsUptoCard : Claim7 := { stood := { row := agreementPosteriorsUptoRow, standIns := [], harness := (true, "f88c45963734ece8e7a97354b01917fbaa36ceb2e205255ae89a73c6fe6d734b"), looks := false }, kinds := [], alts := [], laidByText := true, laidKinds := [.data, .widerDeep], laidTests := true, laidLooks := .later }
def AgreementPosteriorsUptoCardSaid : Prop := Claim7.holds Tryd.pinned (.plain (OpenSpec.upto agreementPosteriorsSpec)) agreementPosteriorsUptoCard

/-- THE SECOND FORM's CARD OF 'wittinglaw24.AgreementTells'. -/
def agreementTellsUptoCard : Claim7 := { stood := { row := agreementTellsUptoRow, standIns := [], harness := (true, "f88c45963734ece8e7a97354b01917fbaa36ceb2e205255ae89a73c6fe6d734b"), looks := false }, kinds := [], alts := [], laidByText := true, laidKinds := [.data, .widerDeep], laidTests := true, laidLooks := .later }
def AgreementTellsUptoCardSaid : Prop := Claim7.holds Tryd.pinned (.plain (OpenSpec.upto agreementTellsSpec)) agreementTellsUptoCard

/-- THE SECOND FORM's CARD OF 'wittinglaw24.AgreementExchanges'. -/
def agreementExchangesUptoCard : Claim7 := { stood := { row := agreementExchangesUptoRow, standIns := [], harness := (true, "f88c45963734ece8e7a97354b01917fbaa36ceb2e205255ae89a73c6fe6d734b"), looks := false }, kinds := [], alts := [], laidByText := true, laidKinds := [.data, .widerDeep], laidTests := true, laidLooks := .later }
def AgreementExchangesUptoCardSaid : Prop := Claim7.holds Tryd.pinned (.plain (OpenSpec.upto agreementExchangesSpec)) agreementExchangesUptoCard

/-- THE SECOND FORM's CARD OF 'wittinglaw24.AgreementEnds'. -/
def agreementEndsUptoCard : Claim7 := { stood := { row := agreementEndsUptoRow, standIns := [], harness := (true, "f88c45963734ece8e7a97354b01917fbaa36ceb2e205255ae89a73c6fe6d734b"), looks := false }, kinds := [], alts := [], laidByText := true, laidKinds := [.data, .widerDeep], laidTests := true, laidLooks := .later }
def AgreementEndsUptoCardSaid : Prop := Claim7.holds Tryd.pinned (.plain (OpenSpec.upto agreementEndsSpec)) agreementEndsUptoCard

/-- THE SECOND FORM's CARD OF 'wittinglaw24.AgreementCannot'. -/
def agreementCannotUptoCard : Claim7 := { stood := { row := agreementCannotUptoRow, standIns := [], harness := (true, "f88c45963734ece8e7a97354b01917fbaa36ceb2e205255ae89a73c6fe6d734b"), looks := false }, kinds := [], alts := [], laidByText := true, laidKinds := [.data, .widerDeep], laidTests := true, laidLooks := .later }
def AgreementCannotUptoCardSaid : Prop := Claim7.holds Tryd.pinned (.plain (OpenSpec.upto agreementCannotSpec)) agreementCannotUptoCard

/-- THE SECOND FORM's CARD OF 'wittinglaw24.AgreementMeans'. -/
def agreementMeansUptoCard : Claim7 := { stood := { row := agreementMeansUptoRow, standIns := [], harness := (true, "f88c45963734ece8e7a97354b01917fbaa36ceb2e205255ae89a73c6fe6d734b"), looks := false }, kinds := [], alts := [], laidByText := true, laidKinds := [.data, .widerDeep], laidTests := true, laidLooks := .later }
def AgreementMeansUptoCardSaid : Prop := Claim7.holds Tryd.pinned (.plain (OpenSpec.upto agreementMeansSpec)) agreementMeansUptoCard

/-- THE SECOND FORM's CARD OF 'wittinglaw24.AgreementDivides'. -/
def agreementDividesUptoCard : Claim7 := { stood := { row := agreementDividesUptoRow, standIns := [], harness := (true, "f88c45963734ece8e7a97354b01917fbaa36ceb2e205255ae89a73c6fe6d734b"), looks := false }, kinds := [], alts := [], laidByText := true, laidKinds := [.data, .widerDeep], laidTests := true, laidLooks := .later }
def AgreementDividesUptoCardSaid : Prop := Claim7.holds Tryd.pinned (.plain (OpenSpec.upto agreementDividesSpec)) agreementDividesUptoCard

/-- THE SECOND FORM's CARD OF 'wittingtop.TopCommonReached'. -/
def topCommonReachedUptoCard : Claim7 := { stood := { row := topCommonReachedUptoRow, standIns := [], harness := (true, "f88c45963734ece8e7a97354b01917fbaa36ceb2e205255ae89a73c6fe6d734b"), looks := false }, kinds := [], alts := [], laidByText := true, laidKinds := [.data, .widerDeep], laidTests := true, laidLooks := .later }
def TopCommonReachedUptoCardSaid : Prop := Claim7.holds Tryd.pinned (.plain (OpenSpec.upto topCommonReachedSpec)) topCommonReachedUptoCard

/-- THE SECOND FORM's CARD OF 'wittingtop.TopAgreedValue'. -/
def topAgreedValueUptoCard : Claim7 := { stood := { row := topAgreedValueUptoRow, standIns := [], harness := (true, "f88c45963734ece8e7a97354b01917fbaa36ceb2e205255ae89a73c6fe6d734b"), looks := false }, kinds := [], alts := [], laidByText := true, laidKinds := [.data, .widerDeep], laidTests := true, laidLooks := .later }
def TopAgreedValueUptoCardSaid : Prop := Claim7.holds Tryd.pinned (.plain (OpenSpec.upto topAgreedValueSpec)) topAgreedValueUptoCard
end Rows
end Go.Proofs.YtfbgabcdeecpoaaDoor
