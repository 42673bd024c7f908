/-
  DERIVED. GIVEN WITH THE SEED: THE CARDS: each row of YtkcedppepepgfaaDoorRows.lean that lists a variable, with what it lists TIED to the program's text (the seventh form; the later family's looks); each row that meets fmt, with fmt's text TOLD by the authors' own Lean function (tested against real Go, not proved from fmt's source: count such statements apart). THE CARD IS WHAT COUNTS. Prove the row's statement (the work); the ties are given (YtkcedppepepgfaaDoorTie.lean); close each card by the builder's one call (the guide's Derived/Test/ToyasCard.lean, 'card_holds'). Laid BY PROGRAM, IN A SANDBOX (cutbox-door.mjs). By AI agents, Wed Nov 11 2026. No macro, syntax, notation, axiom, sorry.
-/
import Derived.Test.YtkcedppepepgfaaDoorRows
import GoSem.ClaimSeven
namespace Go.Proofs.YtkcedppepepgfaaDoor
namespace Rows

/-- THE TIED CARD OF 'wittinglaw08.RewriteSimplify'. -/
def rewriteSimplifyCard : Claim7 := { stood := { row := rewriteSimplifyRow, standIns := [], harness := (true, "c10ed73324ae0d7031d8c345eb4831231e4168734d96289f8c373b0e424a95b9"), looks := false }, kinds := [], alts := [], laidByText := true, laidKinds := [.data, .data], laidTests := true, laidLooks := .later }
def RewriteSimplifyCardSaid : Prop := Claim7.holds Tryd.pinned (.plain (OpenSpec.ofChange rewriteSimplifySpec)) rewriteSimplifyCard

/-- THE TIED CARD OF 'wittinglaw08.RewriteSubst'. -/
def rewriteSubstCard : Claim7 := { stood := { row := rewriteSubstRow, standIns := [], harness := (true, "c10ed73324ae0d7031d8c345eb4831231e4168734d96289f8c373b0e424a95b9"), looks := false }, kinds := [], alts := [], laidByText := true, laidKinds := [.data, .data], laidTests := true, laidLooks := .later }
def RewriteSubstCardSaid : Prop := Claim7.holds Tryd.pinned (.plain (OpenSpec.ofChange rewriteSubstSpec)) rewriteSubstCard

/-- THE TIED CARD OF 'wittinglaw08.RewriteLists'. -/
def rewriteListsCard : Claim7 := { stood := { row := rewriteListsRow, standIns := [], harness := (true, "c10ed73324ae0d7031d8c345eb4831231e4168734d96289f8c373b0e424a95b9"), looks := false }, kinds := [], alts := [], laidByText := true, laidKinds := [.data, .data], laidTests := true, laidLooks := .later }
def RewriteListsCardSaid : Prop := Claim7.holds Tryd.pinned (.plain (OpenSpec.ofChange rewriteListsSpec)) rewriteListsCard

/-- THE TIED CARD OF 'wittinglaw08.RewriteMeans'. -/
def rewriteMeansCard : Claim7 := { stood := { row := rewriteMeansRow, standIns := [], harness := (true, "c10ed73324ae0d7031d8c345eb4831231e4168734d96289f8c373b0e424a95b9"), looks := false }, kinds := [], alts := [], laidByText := true, laidKinds := [.data, .data], laidTests := true, laidLooks := .later }
def RewriteMeansCardSaid : Prop := Claim7.holds Tryd.pinned (.plain (OpenSpec.ofChange rewriteMeansSpec)) rewriteMeansCard

/-- THE TIED CARD OF 'wittinglaw08.RewriteForms'. -/
def rewriteFormsCard : Claim7 := { stood := { row := rewriteFormsRow, standIns := [], harness := (true, "c10ed73324ae0d7031d8c345eb4831231e4168734d96289f8c373b0e424a95b9"), looks := false }, kinds := [], alts := [], laidByText := true, laidKinds := [.data, .data], laidTests := true, laidLooks := .later }
def RewriteFormsCardSaid : Prop := Claim7.holds Tryd.pinned (.plain (OpenSpec.ofChange rewriteFormsSpec)) rewriteFormsCard

/-- THE TIED CARD OF 'wittinglaw08.RewriteTwice'. -/
def rewriteTwiceCard : Claim7 := { stood := { row := rewriteTwiceRow, standIns := [], harness := (true, "c10ed73324ae0d7031d8c345eb4831231e4168734d96289f8c373b0e424a95b9"), looks := false }, kinds := [], alts := [], laidByText := true, laidKinds := [.data, .data], laidTests := true, laidLooks := .later }
def RewriteTwiceCardSaid : Prop := Claim7.holds Tryd.pinned (.plain (OpenSpec.ofChange rewriteTwiceSpec)) rewriteTwiceCard

/-- THE TIED CARD OF 'wittinglaw08.RewriteClosed'. -/
def rewriteClosedCard : Claim7 := { stood := { row := rewriteClosedRow, standIns := [], harness := (true, "c10ed73324ae0d7031d8c345eb4831231e4168734d96289f8c373b0e424a95b9"), looks := false }, kinds := [], alts := [], laidByText := true, laidKinds := [.data, .data], laidTests := true, laidLooks := .later }
def RewriteClosedCardSaid : Prop := Claim7.holds Tryd.pinned (.plain (OpenSpec.ofChange rewriteClosedSpec)) rewriteClosedCard

/-- THE SECOND FORM's CARD OF 'wittinglaw08.RewriteSimplify'. -/
def rewriteSimplifyUptoCard : Claim7 := { stood := { row := rewriteSimplifyUptoRow, standIns := [], harness := (true, "c10ed73324ae0d7031d8c345eb4831231e4168734d96289f8c373b0e424a95b9"), looks := false }, kinds := [], alts := [], laidByText := true, laidKinds := [.data, .data], laidTests := true, laidLooks := .later }
def RewriteSimplifyUptoCardSaid : Prop := Claim7.holds Tryd.pinned (.plain (OpenSpec.upto rewriteSimplifySpec)) rewriteSimplifyUptoCard

/-- THE SECOND FORM's CARD OF 'wittinglaw08.RewriteSubst'. -/
def rewriteSubstUptoCard : Claim7 := { stood := { row := rewriteSubstUptoRow, standIns := [], harness := (true, "c10ed73324ae0d7031d8c345eb4831231e4168734d96289f8c373b0e424a95b9"), looks := false }, kinds := [], alts := [], laidByText := true, laidKinds := [.data, .data], laidTests := true, laidLooks := .later }
def RewriteSubstUptoCardSaid : Prop := Claim7.holds Tryd.pinned (.plain (OpenSpec.upto rewriteSubstSpec)) rewriteSubstUptoCard

/-- THE SECOND FORM's CARD OF 'wittinglaw08.RewriteLists'. -/
def rewriteListsUptoCard : Claim7 := { stood := { row := rewriteListsUptoRow, standIns := [], harness := (true, "c10ed73324ae0d7031d8c345eb4831231e4168734d96289f8c373b0e424a95b9"), looks := false }, kinds := [], alts := [], laidByText := true, laidKinds := [.data, .data], laidTests := true, laidLooks := .later }
def RewriteListsUptoCardSaid : Prop := Claim7.holds Tryd.pinned (.plain (OpenSpec.upto rewriteListsSpec)) rewriteListsUptoCard

/-- THE SECOND FORM's CARD OF 'wittinglaw08.RewriteMeans'. -/
def rewriteMeansUptoCard : Claim7 := { stood := { row := rewriteMeansUptoRow, standIns := [], harness := (true, "c10ed73324ae0d7031d8c345eb4831231e4168734d96289f8c373b0e424a95b9"), looks := false }, kinds := [], alts := [], laidByText := true, laidKinds := [.data, .data], laidTests := true, laidLooks := .later }
def RewriteMeansUptoCardSaid : Prop := Claim7.holds Tryd.pinned (.plain (OpenSpec.upto rewriteMeansSpec)) rewriteMeansUptoCard

/-- THE SECOND FORM's CARD OF 'wittinglaw08.RewriteForms'. -/
def rewriteFormsUptoCard : Claim7 := { stood := { row := rewriteFormsUptoRow, standIns := [], harness := (true, "c10ed73324ae0d7031d8c345eb4831231e4168734d96289f8c373b0e424a95b9"), looks := false }, kinds := [], alts := [], laidByText := true, laidKinds := [.data, .data], laidTests := true, laidLooks := .later }
def RewriteFormsUptoCardSaid : Prop := Claim7.holds Tryd.pinned (.plain (OpenSpec.upto rewriteFormsSpec)) rewriteFormsUptoCard

/-- THE SECOND FORM's CARD OF 'wittinglaw08.RewriteTwice'. -/
def rewriteTwiceUptoCard : Claim7 := { stood := { row := rewriteTwiceUptoRow, standIns := [], harness := (true, "c10ed73324ae0d7031d8c345eb4831231e4168734d96289f8c373b0e424a95b9"), looks := false }, kinds := [], alts := [], laidByText := true, laidKinds := [.data, .data], laidTests := true, laidLooks := .later }
def RewriteTwiceUptoCardSaid : Prop := Claim7.holds Tryd.pinned (.plain (OpenSpec.upto rewriteTwiceSpec)) rewriteTwiceUptoCard

/-- THE SECOND FORM's CARD OF 'wittinglaw08.RewriteClosed'. -/
def rewriteClosedUptoCard : Claim7 := { stood := { row := rewriteClosedUptoRow, standIns := [], harness := (true, "c10ed73324ae0d7031d8c345eb4831231e4168734d96289f8c373b0e424a95b9"), looks := false }, kinds := [], alts := [], laidByText := true, laidKinds := [.data, .data], laidTests := true, laidLooks := .later }
def RewriteClosedUptoCardSaid : Prop := Claim7.holds Tryd.pinned (.plain (OpenSpec.upto rewriteClosedSpec)) rewriteClosedUptoCard
end Rows
end Go.Proofs.YtkcedppepepgfaaDoor
