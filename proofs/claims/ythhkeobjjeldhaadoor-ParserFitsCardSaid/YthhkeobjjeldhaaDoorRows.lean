/-
  NARROWER THAN 'FOR EVERY INPUT', by the rows' own cells (each row's printed sentence says how): ParserTokens: laid · ParserFits: laid · ParserSpaces: laid · ParserJoins: laid · ParserStops: laid · ParserPrefixes: laid.
  DERIVED. THE GIVEN ROWS OF THIS SEAT. 6 by the template 'for every input the law returns true; each argument reads behind the call as it read before'; 0 by the template 'total and deterministic' (their statements: YthhkeobjjeldhaaDoorTotals.lean).
  GIVEN WITH THE SEED: the statements are not yours to turn. If you find one false, say at which input.
  Laid BY PROGRAM, IN A SANDBOX (cutbox-rows.mjs): the forced cells as the released guide's own fill.sh prints them over the translation 75266bb53a3119c0… (all of the seat's roots in one cut). By AI agents, Wed Nov 11 2026. No macro, syntax, notation, axiom, sorry.
-/
import Derived.Test.YthhkeobjjeldhaaDoorChecked
import GoSem.Claim
import GoSem.ClaimJoined
import GoSem.ClaimMapViews
import Derived.JoinedTies
import Derived.KernelRfl
namespace Go.Proofs.YthhkeobjjeldhaaDoor
/- THE CELL 'sum', in the pinned program and in every row, IS THE sha256 OF THE DUMP (.gsa) THAT YthhkeobjjeldhaaDoorProg.lean LOADS. Nothing in Lean hashes anything: it is a label: what it is worth is what the hold of that sum in a sandbox is worth. -/
noncomputable def Tryd.pinned : Pinned := { name := "ythhkeobjjeldhaadoor", sum := "75266bb53a3119c0be19566abfe570a653efbad61f35ec27a1faaa5d6daa401d", checked := Tryd.checked }
namespace Rows
def none {H : Type} : Left H := { results := [], args := [] }

/- WHAT THE LISTED PACKAGE-LEVEL VARIABLES READ AS WHEN THE CALL BEGINS. Each datum BY PROGRAM (the guide's laid-datum.mjs) off the statement by which the dump's own 'gosem.cut.vars' lays the variable. In a bare row this is a premise. The card (YthhkeobjjeldhaaDoorCards.lean) ties it to the program's text. -/
def laid_witting_signature_reserved {H : Type} : DataW H := .slice [.lit (.string [116, 114, 117, 101]), .lit (.string [102, 97, 108, 115, 101]), .lit (.string [110, 101, 120, 116]), .lit (.string [112, 114, 101, 118]), .lit (.string [117, 110, 116, 105, 108]), .lit (.string [115, 105, 110, 99, 101]), .lit (.string [100, 111])] []

/-- 'wittinglaw06.ParserTokens': WHATEVER THE INPUT: true; the input reads as it did. -/
def parserTokensSpec : ChangeSpec := { name := "parserTokens", fn := fun _ => fun
  | [d] => { results := [.lit (.bool true)], args := [d] }
  | _ => none }
def parserTokensRow : OpenClaim := { program := "ythhkeobjjeldhaadoor", sum := "75266bb53a3119c0be19566abfe570a653efbad61f35ec27a1faaa5d6daa401d", func := "witting/wittinglaw06.ParserTokens", spec := "parserTokens", inPlace := ["internal/bytealg.IndexByteString"], unfollowed := true, recurses := true, named := ["witting/signature.reserved"], plainKeys := false, apart := false, laid := [("witting/signature.reserved", laid_witting_signature_reserved)] }
def ParserTokensSaid : Prop := parserTokensRow.holds Tryd.pinned (OpenSpec.ofChange parserTokensSpec)

/-- ITS FALSE NEIGHBOUR: 'it returns false'. Refute it at one input. -/
def parserTokensWrong : ChangeSpec := { name := "parserTokens", fn := fun _ => fun
  | [d] => { results := [.lit (.bool false)], args := [d] }
  | _ => none }
def ParserTokensWrongFalsely : Prop := parserTokensRow.holds Tryd.pinned (OpenSpec.ofChange parserTokensWrong)

/-- 'wittinglaw06.ParserFits': WHATEVER THE INPUT: true; the input reads as it did. -/
def parserFitsSpec : ChangeSpec := { name := "parserFits", fn := fun _ => fun
  | [d1, d2] => { results := [.lit (.bool true)], args := [d1, d2] }
  | _ => none }
def parserFitsRow : OpenClaim := { program := "ythhkeobjjeldhaadoor", sum := "75266bb53a3119c0be19566abfe570a653efbad61f35ec27a1faaa5d6daa401d", func := "witting/wittinglaw06.ParserFits", spec := "parserFits", inPlace := ["internal/bytealg.IndexByteString"], unfollowed := true, recurses := true, named := ["witting/signature.reserved"], plainKeys := false, apart := false, laid := [("witting/signature.reserved", laid_witting_signature_reserved)] }
def ParserFitsSaid : Prop := parserFitsRow.holds Tryd.pinned (OpenSpec.ofChange parserFitsSpec)

/-- ITS FALSE NEIGHBOUR: 'it returns false'. Refute it at one input. -/
def parserFitsWrong : ChangeSpec := { name := "parserFits", fn := fun _ => fun
  | [d1, d2] => { results := [.lit (.bool false)], args := [d1, d2] }
  | _ => none }
def ParserFitsWrongFalsely : Prop := parserFitsRow.holds Tryd.pinned (OpenSpec.ofChange parserFitsWrong)

/-- 'wittinglaw06.ParserSpaces': WHATEVER THE INPUT: true; the input reads as it did. -/
def parserSpacesSpec : ChangeSpec := { name := "parserSpaces", fn := fun _ => fun
  | [d1, d2, d3] => { results := [.lit (.bool true)], args := [d1, d2, d3] }
  | _ => none }
def parserSpacesRow : OpenClaim := { program := "ythhkeobjjeldhaadoor", sum := "75266bb53a3119c0be19566abfe570a653efbad61f35ec27a1faaa5d6daa401d", func := "witting/wittinglaw06.ParserSpaces", spec := "parserSpaces", inPlace := ["internal/bytealg.IndexByteString"], unfollowed := true, recurses := true, named := ["witting/signature.reserved"], plainKeys := false, apart := false, laid := [("witting/signature.reserved", laid_witting_signature_reserved)] }
def ParserSpacesSaid : Prop := parserSpacesRow.holds Tryd.pinned (OpenSpec.ofChange parserSpacesSpec)

/-- ITS FALSE NEIGHBOUR: 'it returns false'. Refute it at one input. -/
def parserSpacesWrong : ChangeSpec := { name := "parserSpaces", fn := fun _ => fun
  | [d1, d2, d3] => { results := [.lit (.bool false)], args := [d1, d2, d3] }
  | _ => none }
def ParserSpacesWrongFalsely : Prop := parserSpacesRow.holds Tryd.pinned (OpenSpec.ofChange parserSpacesWrong)

/-- 'wittinglaw06.ParserJoins': WHATEVER THE INPUT: true; the input reads as it did. -/
def parserJoinsSpec : ChangeSpec := { name := "parserJoins", fn := fun _ => fun
  | [d1, d2, d3] => { results := [.lit (.bool true)], args := [d1, d2, d3] }
  | _ => none }
def parserJoinsRow : OpenClaim := { program := "ythhkeobjjeldhaadoor", sum := "75266bb53a3119c0be19566abfe570a653efbad61f35ec27a1faaa5d6daa401d", func := "witting/wittinglaw06.ParserJoins", spec := "parserJoins", inPlace := ["internal/bytealg.IndexByteString"], unfollowed := true, recurses := true, named := ["witting/signature.reserved"], plainKeys := false, apart := false, laid := [("witting/signature.reserved", laid_witting_signature_reserved)] }
def ParserJoinsSaid : Prop := parserJoinsRow.holds Tryd.pinned (OpenSpec.ofChange parserJoinsSpec)

/-- ITS FALSE NEIGHBOUR: 'it returns false'. Refute it at one input. -/
def parserJoinsWrong : ChangeSpec := { name := "parserJoins", fn := fun _ => fun
  | [d1, d2, d3] => { results := [.lit (.bool false)], args := [d1, d2, d3] }
  | _ => none }
def ParserJoinsWrongFalsely : Prop := parserJoinsRow.holds Tryd.pinned (OpenSpec.ofChange parserJoinsWrong)

/-- 'wittinglaw06.ParserStops': WHATEVER THE INPUT: true; the input reads as it did. -/
def parserStopsSpec : ChangeSpec := { name := "parserStops", fn := fun _ => fun
  | [d1, d2] => { results := [.lit (.bool true)], args := [d1, d2] }
  | _ => none }
def parserStopsRow : OpenClaim := { program := "ythhkeobjjeldhaadoor", sum := "75266bb53a3119c0be19566abfe570a653efbad61f35ec27a1faaa5d6daa401d", func := "witting/wittinglaw06.ParserStops", spec := "parserStops", inPlace := ["internal/bytealg.IndexByteString"], unfollowed := true, recurses := true, named := ["witting/signature.reserved"], plainKeys := false, apart := false, laid := [("witting/signature.reserved", laid_witting_signature_reserved)] }
def ParserStopsSaid : Prop := parserStopsRow.holds Tryd.pinned (OpenSpec.ofChange parserStopsSpec)

/-- ITS FALSE NEIGHBOUR: 'it returns false'. Refute it at one input. -/
def parserStopsWrong : ChangeSpec := { name := "parserStops", fn := fun _ => fun
  | [d1, d2] => { results := [.lit (.bool false)], args := [d1, d2] }
  | _ => none }
def ParserStopsWrongFalsely : Prop := parserStopsRow.holds Tryd.pinned (OpenSpec.ofChange parserStopsWrong)

/-- 'wittinglaw06.ParserPrefixes': WHATEVER THE INPUT: true; the input reads as it did. -/
def parserPrefixesSpec : ChangeSpec := { name := "parserPrefixes", fn := fun _ => fun
  | [d1, d2] => { results := [.lit (.bool true)], args := [d1, d2] }
  | _ => none }
def parserPrefixesRow : OpenClaim := { program := "ythhkeobjjeldhaadoor", sum := "75266bb53a3119c0be19566abfe570a653efbad61f35ec27a1faaa5d6daa401d", func := "witting/wittinglaw06.ParserPrefixes", spec := "parserPrefixes", inPlace := ["internal/bytealg.IndexByteString"], unfollowed := true, recurses := true, named := ["witting/signature.reserved"], plainKeys := false, apart := false, laid := [("witting/signature.reserved", laid_witting_signature_reserved)] }
def ParserPrefixesSaid : Prop := parserPrefixesRow.holds Tryd.pinned (OpenSpec.ofChange parserPrefixesSpec)

/-- ITS FALSE NEIGHBOUR: 'it returns false'. Refute it at one input. -/
def parserPrefixesWrong : ChangeSpec := { name := "parserPrefixes", fn := fun _ => fun
  | [d1, d2] => { results := [.lit (.bool false)], args := [d1, d2] }
  | _ => none }
def ParserPrefixesWrongFalsely : Prop := parserPrefixesRow.holds Tryd.pinned (OpenSpec.ofChange parserPrefixesWrong)

/- THE SECOND FORM. 'bulk': how many values and letters a reading holds, each counted each time it is reached (what is shared counts as often as it is met; a slice's spare places count too). A statement '..UptoSaid' is the law's where the arguments, and the package variables that the reading takes, are together of bulk at most 1048576: NARROWER than '..Said'. Prove '..Said' where nothing that the law and all that it calls make is longer than what came in: it says more and counts as full. Else prove '..UptoSaid'. A law counts once. -/
mutual
def uptoBulk {H : Type} : DataW H → Nat
  | .lit (.string bytes) => bytes.length + 1
  | .lit _ => 1
  | .nil => 1
  | .ptr d => uptoBulk d + 1
  | .slice elems spare => uptoBulkAll elems + uptoBulkAll spare + 1
  | .agg parts => uptoBulkAll parts + 1
  | .iface _ d => uptoBulk d + 1
  | .map entries => uptoBulkEntries entries + 1
  | .held _ => 1
def uptoBulkAll {H : Type} : List (DataW H) → Nat
  | [] => 0
  | d :: r => uptoBulk d + uptoBulkAll r
def uptoBulkEntries {H : Type} : List (Lit × DataW H) → Nat
  | [] => 0
  | x :: r => uptoBulkEntry x + uptoBulkEntries r
def uptoBulkEntry {H : Type} : Lit × DataW H → Nat
  | (.string bytes, d) => bytes.length + uptoBulk d + 1
  | (_, d) => uptoBulk d + 1
 end
def uptoSmall : (H : Type) → List (DataW H) → Bool := fun _ ds => decide (uptoBulkAll ds ≤ 1048576)
def OpenSpec.upto (s : _root_.Go.ChangeSpec) : _root_.Go.OpenSpec := { _root_.Go.OpenSpec.ofChange s with cond := some uptoSmall }

/-- 'wittinglaw06.ParserTokens', WHERE WHAT IT READS IS OF BULK AT MOST 1048576: true; the input reads as it did. -/
def parserTokensUptoRow : OpenClaim := { program := "ythhkeobjjeldhaadoor", sum := "75266bb53a3119c0be19566abfe570a653efbad61f35ec27a1faaa5d6daa401d", func := "witting/wittinglaw06.ParserTokens", spec := "parserTokens", inPlace := ["internal/bytealg.IndexByteString"], unfollowed := true, recurses := true, named := ["witting/signature.reserved"], plainKeys := false, apart := false, laid := [("witting/signature.reserved", laid_witting_signature_reserved)], narrowed := true }
def ParserTokensUptoSaid : Prop := parserTokensUptoRow.holds Tryd.pinned (OpenSpec.upto parserTokensSpec)

/-- 'wittinglaw06.ParserFits', WHERE WHAT IT READS IS OF BULK AT MOST 1048576: true; the input reads as it did. -/
def parserFitsUptoRow : OpenClaim := { program := "ythhkeobjjeldhaadoor", sum := "75266bb53a3119c0be19566abfe570a653efbad61f35ec27a1faaa5d6daa401d", func := "witting/wittinglaw06.ParserFits", spec := "parserFits", inPlace := ["internal/bytealg.IndexByteString"], unfollowed := true, recurses := true, named := ["witting/signature.reserved"], plainKeys := false, apart := false, laid := [("witting/signature.reserved", laid_witting_signature_reserved)], narrowed := true }
def ParserFitsUptoSaid : Prop := parserFitsUptoRow.holds Tryd.pinned (OpenSpec.upto parserFitsSpec)

/-- 'wittinglaw06.ParserSpaces', WHERE WHAT IT READS IS OF BULK AT MOST 1048576: true; the input reads as it did. -/
def parserSpacesUptoRow : OpenClaim := { program := "ythhkeobjjeldhaadoor", sum := "75266bb53a3119c0be19566abfe570a653efbad61f35ec27a1faaa5d6daa401d", func := "witting/wittinglaw06.ParserSpaces", spec := "parserSpaces", inPlace := ["internal/bytealg.IndexByteString"], unfollowed := true, recurses := true, named := ["witting/signature.reserved"], plainKeys := false, apart := false, laid := [("witting/signature.reserved", laid_witting_signature_reserved)], narrowed := true }
def ParserSpacesUptoSaid : Prop := parserSpacesUptoRow.holds Tryd.pinned (OpenSpec.upto parserSpacesSpec)

/-- 'wittinglaw06.ParserJoins', WHERE WHAT IT READS IS OF BULK AT MOST 1048576: true; the input reads as it did. -/
def parserJoinsUptoRow : OpenClaim := { program := "ythhkeobjjeldhaadoor", sum := "75266bb53a3119c0be19566abfe570a653efbad61f35ec27a1faaa5d6daa401d", func := "witting/wittinglaw06.ParserJoins", spec := "parserJoins", inPlace := ["internal/bytealg.IndexByteString"], unfollowed := true, recurses := true, named := ["witting/signature.reserved"], plainKeys := false, apart := false, laid := [("witting/signature.reserved", laid_witting_signature_reserved)], narrowed := true }
def ParserJoinsUptoSaid : Prop := parserJoinsUptoRow.holds Tryd.pinned (OpenSpec.upto parserJoinsSpec)

/-- 'wittinglaw06.ParserStops', WHERE WHAT IT READS IS OF BULK AT MOST 1048576: true; the input reads as it did. -/
def parserStopsUptoRow : OpenClaim := { program := "ythhkeobjjeldhaadoor", sum := "75266bb53a3119c0be19566abfe570a653efbad61f35ec27a1faaa5d6daa401d", func := "witting/wittinglaw06.ParserStops", spec := "parserStops", inPlace := ["internal/bytealg.IndexByteString"], unfollowed := true, recurses := true, named := ["witting/signature.reserved"], plainKeys := false, apart := false, laid := [("witting/signature.reserved", laid_witting_signature_reserved)], narrowed := true }
def ParserStopsUptoSaid : Prop := parserStopsUptoRow.holds Tryd.pinned (OpenSpec.upto parserStopsSpec)

/-- 'wittinglaw06.ParserPrefixes', WHERE WHAT IT READS IS OF BULK AT MOST 1048576: true; the input reads as it did. -/
def parserPrefixesUptoRow : OpenClaim := { program := "ythhkeobjjeldhaadoor", sum := "75266bb53a3119c0be19566abfe570a653efbad61f35ec27a1faaa5d6daa401d", func := "witting/wittinglaw06.ParserPrefixes", spec := "parserPrefixes", inPlace := ["internal/bytealg.IndexByteString"], unfollowed := true, recurses := true, named := ["witting/signature.reserved"], plainKeys := false, apart := false, laid := [("witting/signature.reserved", laid_witting_signature_reserved)], narrowed := true }
def ParserPrefixesUptoSaid : Prop := parserPrefixesUptoRow.holds Tryd.pinned (OpenSpec.upto parserPrefixesSpec)

end Rows
end Go.Proofs.YthhkeobjjeldhaaDoor
