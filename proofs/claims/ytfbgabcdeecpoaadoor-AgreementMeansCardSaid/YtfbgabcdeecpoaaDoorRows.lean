/-
  NARROWER THAN 'FOR EVERY INPUT', by the rows' own cells (each row's printed sentence says how): AgreementChecks: laid · AgreementPosteriors: laid · AgreementTells: laid · AgreementExchanges: laid · AgreementEnds: laid · AgreementCannot: laid · AgreementMeans: laid · AgreementDivides: laid · TopCommonReached: laid · TopAgreedValue: laid.
  DERIVED. THE GIVEN ROWS OF THIS SEAT. 10 by the template 'for every input the law returns true; each argument reads behind the call as it read before'; 0 by the template 'total and deterministic' (their statements: YtfbgabcdeecpoaaDoorTotals.lean).
  GIVEN WITH THE SEED: the statements are not yours to turn. If you find one false, say at which input.
  Laid BY PROGRAM, IN A SANDBOX (cutbox-rows.mjs): the forced cells as the released guide's own fill.sh prints them over the translation 13ea9eae85e68824… (all of the seat's roots in one cut). By AI agents, Wed Nov 11 2026. No macro, syntax, notation, axiom, sorry.
-/
import Derived.Test.YtfbgabcdeecpoaaDoorChecked
import GoSem.Claim
import GoSem.ClaimJoined
import GoSem.ClaimMapViews
import Derived.JoinedTies
import Derived.KernelRfl
namespace Go.Proofs.YtfbgabcdeecpoaaDoor
/- THE CELL 'sum', in the pinned program and in every row, IS THE sha256 OF THE DUMP (.gsa) THAT YtfbgabcdeecpoaaDoorProg.lean LOADS. Nothing in Lean hashes anything: it is a label: what it is worth is what the hold of that sum in a sandbox is worth. -/
noncomputable def Tryd.pinned : Pinned := { name := "ytfbgabcdeecpoaadoor", sum := "13ea9eae85e68824515a03bbac5d20c8b823c9956818dff2736c6fa9d966e5e3", checked := Tryd.checked }
namespace Rows
def none {H : Type} : Left H := { results := [], args := [] }

/- WHAT THE LISTED PACKAGE-LEVEL VARIABLES READ AS WHEN THE CALL BEGINS. Each datum BY PROGRAM (the guide's laid-datum.mjs) off the statement by which the dump's own 'gosem.cut.vars' lays the variable. In a bare row this is a premise. The card (YtfbgabcdeecpoaaDoorCards.lean) ties it to the program's text. -/
def laid_math_bits_deBruijn64tab {H : Type} : DataW H := .agg [.lit (.int .u8 0), .lit (.int .u8 1), .lit (.int .u8 56), .lit (.int .u8 2), .lit (.int .u8 57), .lit (.int .u8 49), .lit (.int .u8 28), .lit (.int .u8 3), .lit (.int .u8 61), .lit (.int .u8 58), .lit (.int .u8 42), .lit (.int .u8 50), .lit (.int .u8 38), .lit (.int .u8 29), .lit (.int .u8 17), .lit (.int .u8 4), .lit (.int .u8 62), .lit (.int .u8 47), .lit (.int .u8 59), .lit (.int .u8 36), .lit (.int .u8 45), .lit (.int .u8 43), .lit (.int .u8 51), .lit (.int .u8 22), .lit (.int .u8 53), .lit (.int .u8 39), .lit (.int .u8 33), .lit (.int .u8 30), .lit (.int .u8 24), .lit (.int .u8 18), .lit (.int .u8 12), .lit (.int .u8 5), .lit (.int .u8 63), .lit (.int .u8 55), .lit (.int .u8 48), .lit (.int .u8 27), .lit (.int .u8 60), .lit (.int .u8 41), .lit (.int .u8 37), .lit (.int .u8 16), .lit (.int .u8 46), .lit (.int .u8 35), .lit (.int .u8 44), .lit (.int .u8 21), .lit (.int .u8 52), .lit (.int .u8 32), .lit (.int .u8 23), .lit (.int .u8 11), .lit (.int .u8 54), .lit (.int .u8 26), .lit (.int .u8 40), .lit (.int .u8 15), .lit (.int .u8 34), .lit (.int .u8 20), .lit (.int .u8 31), .lit (.int .u8 10), .lit (.int .u8 25), .lit (.int .u8 14), .lit (.int .u8 19), .lit (.int .u8 9), .lit (.int .u8 13), .lit (.int .u8 8), .lit (.int .u8 7), .lit (.int .u8 6)]
def laid_witting_partition_finest {H : Type} : DataW H := .slice [.lit (.int .i64 0), .lit (.int .i64 1), .lit (.int .i64 2), .lit (.int .i64 3), .lit (.int .i64 4), .lit (.int .i64 5), .lit (.int .i64 6), .lit (.int .i64 7), .lit (.int .i64 8), .lit (.int .i64 9), .lit (.int .i64 10), .lit (.int .i64 11), .lit (.int .i64 12), .lit (.int .i64 13), .lit (.int .i64 14), .lit (.int .i64 15), .lit (.int .i64 16), .lit (.int .i64 17), .lit (.int .i64 18), .lit (.int .i64 19), .lit (.int .i64 20), .lit (.int .i64 21), .lit (.int .i64 22), .lit (.int .i64 23), .lit (.int .i64 24), .lit (.int .i64 25), .lit (.int .i64 26), .lit (.int .i64 27), .lit (.int .i64 28), .lit (.int .i64 29), .lit (.int .i64 30), .lit (.int .i64 31), .lit (.int .i64 32), .lit (.int .i64 33), .lit (.int .i64 34), .lit (.int .i64 35), .lit (.int .i64 36), .lit (.int .i64 37), .lit (.int .i64 38), .lit (.int .i64 39), .lit (.int .i64 40), .lit (.int .i64 41), .lit (.int .i64 42), .lit (.int .i64 43), .lit (.int .i64 44), .lit (.int .i64 45), .lit (.int .i64 46), .lit (.int .i64 47), .lit (.int .i64 48), .lit (.int .i64 49), .lit (.int .i64 50), .lit (.int .i64 51), .lit (.int .i64 52), .lit (.int .i64 53), .lit (.int .i64 54), .lit (.int .i64 55), .lit (.int .i64 56), .lit (.int .i64 57), .lit (.int .i64 58), .lit (.int .i64 59), .lit (.int .i64 60), .lit (.int .i64 61), .lit (.int .i64 62), .lit (.int .i64 63)] []

/-- 'wittinglaw24.AgreementChecks': WHATEVER THE INPUT: true; the input reads as it did. -/
def agreementChecksSpec : ChangeSpec := { name := "agreementChecks", fn := fun _ => fun
  | [d1, d2] => { results := [.lit (.bool true)], args := [d1, d2] }
  | _ => none }
def agreementChecksRow : OpenClaim := { program := "ytfbgabcdeecpoaadoor", sum := "13ea9eae85e68824515a03bbac5d20c8b823c9956818dff2736c6fa9d966e5e3", func := "witting/wittinglaw24.AgreementChecks", spec := "agreementChecks", unfollowed := true, recurses := true, named := ["math/bits.deBruijn64tab", "witting/partition.finest"], plainKeys := false, apart := false, laid := [("math/bits.deBruijn64tab", laid_math_bits_deBruijn64tab), ("witting/partition.finest", laid_witting_partition_finest)] }
def AgreementChecksSaid : Prop := agreementChecksRow.holds Tryd.pinned (OpenSpec.ofChange agreementChecksSpec)

/-- ITS FALSE NEIGHBOUR: 'it returns false'. Refute it at one input. -/
def agreementChecksWrong : ChangeSpec := { name := "agreementChecks", fn := fun _ => fun
  | [d1, d2] => { results := [.lit (.bool false)], args := [d1, d2] }
  | _ => none }
def AgreementChecksWrongFalsely : Prop := agreementChecksRow.holds Tryd.pinned (OpenSpec.ofChange agreementChecksWrong)

/-- 'wittinglaw24.AgreementPosteriors': WHATEVER THE INPUT: true; the input reads as it did. -/
def agreementPosteriorsSpec : ChangeSpec := { name := "agreementPosteriors", fn := fun _ => fun
  | [d1, d2, d3] => { results := [.lit (.bool true)], args := [d1, d2, d3] }
  | _ => none }
def agreementPosteriorsRow : OpenClaim := { program := "ytfbgabcdeecpoaadoor", sum := "13ea9eae85e68824515a03bbac5d20c8b823c9956818dff2736c6fa9d966e5e3", func := "witting/wittinglaw24.AgreementPosteriors", spec := "agreementPosteriors", unfollowed := true, recurses := true, named := ["math/bits.deBruijn64tab", "witting/partition.finest"], plainKeys := false, apart := false, laid := [("math/bits.deBruijn64tab", laid_math_bits_deBruijn64tab), ("witting/partition.finest", laid_witting_partition_finest)] }
def AgreementPosteriorsSaid : Prop := agreementPosteriorsRow.holds Tryd.pinned (OpenSpec.ofChange agreementPosteriorsSpec)

/-- ITS FALSE NEIGHBOUR: 'it returns false'. Refute it at one input. -/
def agreementPosteriorsWrong : ChangeSpec := { name := "agreementPosteriors", fn := fun _ => fun
  | [d1, d2, d3] => { results := [.lit (.bool false)], args := [d1, d2, d3] }
  | _ => none }
def AgreementPosteriorsWrongFalsely : Prop := agreementPosteriorsRow.holds Tryd.pinned (OpenSpec.ofChange agreementPosteriorsWrong)

/-- 'wittinglaw24.AgreementTells': WHATEVER THE INPUT: true; the input reads as it did. -/
def agreementTellsSpec : ChangeSpec := { name := "agreementTells", fn := fun _ => fun
  | [d1, d2, d3] => { results := [.lit (.bool true)], args := [d1, d2, d3] }
  | _ => none }
def agreementTellsRow : OpenClaim := { program := "ytfbgabcdeecpoaadoor", sum := "13ea9eae85e68824515a03bbac5d20c8b823c9956818dff2736c6fa9d966e5e3", func := "witting/wittinglaw24.AgreementTells", spec := "agreementTells", unfollowed := true, recurses := true, named := ["math/bits.deBruijn64tab", "witting/partition.finest"], plainKeys := false, apart := false, laid := [("math/bits.deBruijn64tab", laid_math_bits_deBruijn64tab), ("witting/partition.finest", laid_witting_partition_finest)] }
def AgreementTellsSaid : Prop := agreementTellsRow.holds Tryd.pinned (OpenSpec.ofChange agreementTellsSpec)

/-- ITS FALSE NEIGHBOUR: 'it returns false'. Refute it at one input. -/
def agreementTellsWrong : ChangeSpec := { name := "agreementTells", fn := fun _ => fun
  | [d1, d2, d3] => { results := [.lit (.bool false)], args := [d1, d2, d3] }
  | _ => none }
def AgreementTellsWrongFalsely : Prop := agreementTellsRow.holds Tryd.pinned (OpenSpec.ofChange agreementTellsWrong)

/-- 'wittinglaw24.AgreementExchanges': WHATEVER THE INPUT: true; the input reads as it did. -/
def agreementExchangesSpec : ChangeSpec := { name := "agreementExchanges", fn := fun _ => fun
  | [d1, d2] => { results := [.lit (.bool true)], args := [d1, d2] }
  | _ => none }
def agreementExchangesRow : OpenClaim := { program := "ytfbgabcdeecpoaadoor", sum := "13ea9eae85e68824515a03bbac5d20c8b823c9956818dff2736c6fa9d966e5e3", func := "witting/wittinglaw24.AgreementExchanges", spec := "agreementExchanges", unfollowed := true, recurses := true, named := ["math/bits.deBruijn64tab", "witting/partition.finest"], plainKeys := false, apart := false, laid := [("math/bits.deBruijn64tab", laid_math_bits_deBruijn64tab), ("witting/partition.finest", laid_witting_partition_finest)] }
def AgreementExchangesSaid : Prop := agreementExchangesRow.holds Tryd.pinned (OpenSpec.ofChange agreementExchangesSpec)

/-- ITS FALSE NEIGHBOUR: 'it returns false'. Refute it at one input. -/
def agreementExchangesWrong : ChangeSpec := { name := "agreementExchanges", fn := fun _ => fun
  | [d1, d2] => { results := [.lit (.bool false)], args := [d1, d2] }
  | _ => none }
def AgreementExchangesWrongFalsely : Prop := agreementExchangesRow.holds Tryd.pinned (OpenSpec.ofChange agreementExchangesWrong)

/-- 'wittinglaw24.AgreementEnds': WHATEVER THE INPUT: true; the input reads as it did. -/
def agreementEndsSpec : ChangeSpec := { name := "agreementEnds", fn := fun _ => fun
  | [d1, d2] => { results := [.lit (.bool true)], args := [d1, d2] }
  | _ => none }
def agreementEndsRow : OpenClaim := { program := "ytfbgabcdeecpoaadoor", sum := "13ea9eae85e68824515a03bbac5d20c8b823c9956818dff2736c6fa9d966e5e3", func := "witting/wittinglaw24.AgreementEnds", spec := "agreementEnds", unfollowed := true, recurses := true, named := ["math/bits.deBruijn64tab", "witting/partition.finest"], plainKeys := false, apart := false, laid := [("math/bits.deBruijn64tab", laid_math_bits_deBruijn64tab), ("witting/partition.finest", laid_witting_partition_finest)] }
def AgreementEndsSaid : Prop := agreementEndsRow.holds Tryd.pinned (OpenSpec.ofChange agreementEndsSpec)

/-- ITS FALSE NEIGHBOUR: 'it returns false'. Refute it at one input. -/
def agreementEndsWrong : ChangeSpec := { name := "agreementEnds", fn := fun _ => fun
  | [d1, d2] => { results := [.lit (.bool false)], args := [d1, d2] }
  | _ => none }
def AgreementEndsWrongFalsely : Prop := agreementEndsRow.holds Tryd.pinned (OpenSpec.ofChange agreementEndsWrong)

/-- 'wittinglaw24.AgreementCannot': WHATEVER THE INPUT: true; the input reads as it did. -/
def agreementCannotSpec : ChangeSpec := { name := "agreementCannot", fn := fun _ => fun
  | [d1, d2, d3] => { results := [.lit (.bool true)], args := [d1, d2, d3] }
  | _ => none }
def agreementCannotRow : OpenClaim := { program := "ytfbgabcdeecpoaadoor", sum := "13ea9eae85e68824515a03bbac5d20c8b823c9956818dff2736c6fa9d966e5e3", func := "witting/wittinglaw24.AgreementCannot", spec := "agreementCannot", unfollowed := true, recurses := true, named := ["math/bits.deBruijn64tab", "witting/partition.finest"], plainKeys := false, apart := false, laid := [("math/bits.deBruijn64tab", laid_math_bits_deBruijn64tab), ("witting/partition.finest", laid_witting_partition_finest)] }
def AgreementCannotSaid : Prop := agreementCannotRow.holds Tryd.pinned (OpenSpec.ofChange agreementCannotSpec)

/-- ITS FALSE NEIGHBOUR: 'it returns false'. Refute it at one input. -/
def agreementCannotWrong : ChangeSpec := { name := "agreementCannot", fn := fun _ => fun
  | [d1, d2, d3] => { results := [.lit (.bool false)], args := [d1, d2, d3] }
  | _ => none }
def AgreementCannotWrongFalsely : Prop := agreementCannotRow.holds Tryd.pinned (OpenSpec.ofChange agreementCannotWrong)

/-- 'wittinglaw24.AgreementMeans': WHATEVER THE INPUT: true; the input reads as it did. -/
def agreementMeansSpec : ChangeSpec := { name := "agreementMeans", fn := fun _ => fun
  | [d1, d2, d3] => { results := [.lit (.bool true)], args := [d1, d2, d3] }
  | _ => none }
def agreementMeansRow : OpenClaim := { program := "ytfbgabcdeecpoaadoor", sum := "13ea9eae85e68824515a03bbac5d20c8b823c9956818dff2736c6fa9d966e5e3", func := "witting/wittinglaw24.AgreementMeans", spec := "agreementMeans", unfollowed := true, recurses := true, named := ["math/bits.deBruijn64tab", "witting/partition.finest"], plainKeys := false, apart := false, laid := [("math/bits.deBruijn64tab", laid_math_bits_deBruijn64tab), ("witting/partition.finest", laid_witting_partition_finest)] }
def AgreementMeansSaid : Prop := agreementMeansRow.holds Tryd.pinned (OpenSpec.ofChange agreementMeansSpec)

/-- ITS FALSE NEIGHBOUR: 'it returns false'. Refute it at one input. -/
def agreementMeansWrong : ChangeSpec := { name := "agreementMeans", fn := fun _ => fun
  | [d1, d2, d3] => { results := [.lit (.bool false)], args := [d1, d2, d3] }
  | _ => none }
def AgreementMeansWrongFalsely : Prop := agreementMeansRow.holds Tryd.pinned (OpenSpec.ofChange agreementMeansWrong)

/-- 'wittinglaw24.AgreementDivides': WHATEVER THE INPUT: true; the input reads as it did. -/
def agreementDividesSpec : ChangeSpec := { name := "agreementDivides", fn := fun _ => fun
  | [d1, d2, d3] => { results := [.lit (.bool true)], args := [d1, d2, d3] }
  | _ => none }
def agreementDividesRow : OpenClaim := { program := "ytfbgabcdeecpoaadoor", sum := "13ea9eae85e68824515a03bbac5d20c8b823c9956818dff2736c6fa9d966e5e3", func := "witting/wittinglaw24.AgreementDivides", spec := "agreementDivides", unfollowed := true, recurses := true, named := ["math/bits.deBruijn64tab", "witting/partition.finest"], plainKeys := false, apart := false, laid := [("math/bits.deBruijn64tab", laid_math_bits_deBruijn64tab), ("witting/partition.finest", laid_witting_partition_finest)] }
def AgreementDividesSaid : Prop := agreementDividesRow.holds Tryd.pinned (OpenSpec.ofChange agreementDividesSpec)

/-- ITS FALSE NEIGHBOUR: 'it returns false'. Refute it at one input. -/
def agreementDividesWrong : ChangeSpec := { name := "agreementDivides", fn := fun _ => fun
  | [d1, d2, d3] => { results := [.lit (.bool false)], args := [d1, d2, d3] }
  | _ => none }
def AgreementDividesWrongFalsely : Prop := agreementDividesRow.holds Tryd.pinned (OpenSpec.ofChange agreementDividesWrong)

/-- 'wittingtop.TopCommonReached': WHATEVER THE INPUT: true; the input reads as it did. -/
def topCommonReachedSpec : ChangeSpec := { name := "topCommonReached", fn := fun _ => fun
  | [d1, d2] => { results := [.lit (.bool true)], args := [d1, d2] }
  | _ => none }
def topCommonReachedRow : OpenClaim := { program := "ytfbgabcdeecpoaadoor", sum := "13ea9eae85e68824515a03bbac5d20c8b823c9956818dff2736c6fa9d966e5e3", func := "witting/wittingtop.TopCommonReached", spec := "topCommonReached", unfollowed := true, recurses := true, named := ["math/bits.deBruijn64tab", "witting/partition.finest"], plainKeys := false, apart := false, laid := [("math/bits.deBruijn64tab", laid_math_bits_deBruijn64tab), ("witting/partition.finest", laid_witting_partition_finest)] }
def TopCommonReachedSaid : Prop := topCommonReachedRow.holds Tryd.pinned (OpenSpec.ofChange topCommonReachedSpec)

/-- ITS FALSE NEIGHBOUR: 'it returns false'. Refute it at one input. -/
def topCommonReachedWrong : ChangeSpec := { name := "topCommonReached", fn := fun _ => fun
  | [d1, d2] => { results := [.lit (.bool false)], args := [d1, d2] }
  | _ => none }
def TopCommonReachedWrongFalsely : Prop := topCommonReachedRow.holds Tryd.pinned (OpenSpec.ofChange topCommonReachedWrong)

/-- 'wittingtop.TopAgreedValue': WHATEVER THE INPUT: true; the input reads as it did. -/
def topAgreedValueSpec : ChangeSpec := { name := "topAgreedValue", fn := fun _ => fun
  | [d1, d2] => { results := [.lit (.bool true)], args := [d1, d2] }
  | _ => none }
def topAgreedValueRow : OpenClaim := { program := "ytfbgabcdeecpoaadoor", sum := "13ea9eae85e68824515a03bbac5d20c8b823c9956818dff2736c6fa9d966e5e3", func := "witting/wittingtop.TopAgreedValue", spec := "topAgreedValue", unfollowed := true, recurses := true, named := ["math/bits.deBruijn64tab", "witting/partition.finest"], plainKeys := false, apart := false, laid := [("math/bits.deBruijn64tab", laid_math_bits_deBruijn64tab), ("witting/partition.finest", laid_witting_partition_finest)] }
def TopAgreedValueSaid : Prop := topAgreedValueRow.holds Tryd.pinned (OpenSpec.ofChange topAgreedValueSpec)

/-- ITS FALSE NEIGHBOUR: 'it returns false'. Refute it at one input. -/
def topAgreedValueWrong : ChangeSpec := { name := "topAgreedValue", fn := fun _ => fun
  | [d1, d2] => { results := [.lit (.bool false)], args := [d1, d2] }
  | _ => none }
def TopAgreedValueWrongFalsely : Prop := topAgreedValueRow.holds Tryd.pinned (OpenSpec.ofChange topAgreedValueWrong)

/- THE SECOND FORM. 'bulk': how many values and letters a reading holds, each counted each time it is reached (what is shared counts as often as it is met; a slice's spare places count too). A statement '..UptoSaid' is the law's where the arguments, and the package variables that the reading takes, are together of bulk at most 1048576: NARROWER than '..Said'. Prove '..Said' where nothing that the law and all that it calls make is longer than what came in: it says more and counts as full. Else prove '..UptoSaid'. A law counts once. -/
mutual
def uptoBulk {H : Type} : DataW H → Nat
  | .lit (.string bytes) => bytes.length + 1
  | .lit _ => 1
  | .nil => 1
  | .ptr d => uptoBulk d + 1
  | .slice elems spare => uptoBulkAll elems + uptoBulkAll spare + 1
  | .agg parts => uptoBulkAll parts + 1
  | .iface _ d => uptoBulk d + 1
  | .map entries => uptoBulkEntries entries + 1
  | .held _ => 1
def uptoBulkAll {H : Type} : List (DataW H) → Nat
  | [] => 0
  | d :: r => uptoBulk d + uptoBulkAll r
def uptoBulkEntries {H : Type} : List (Lit × DataW H) → Nat
  | [] => 0
  | x :: r => uptoBulkEntry x + uptoBulkEntries r
def uptoBulkEntry {H : Type} : Lit × DataW H → Nat
  | (.string bytes, d) => bytes.length + uptoBulk d + 1
  | (_, d) => uptoBulk d + 1
 end
def uptoSmall : (H : Type) → List (DataW H) → Bool := fun _ ds => decide (uptoBulkAll ds ≤ 1048576)
def OpenSpec.upto (s : _root_.Go.ChangeSpec) : _root_.Go.OpenSpec := { _root_.Go.OpenSpec.ofChange s with cond := some uptoSmall }

/-- 'wittinglaw24.AgreementChecks', WHERE WHAT IT READS IS OF BULK AT MOST 1048576: true; the input reads as it did. -/
def agreementChecksUptoRow : OpenClaim := { program := "ytfbgabcdeecpoaadoor", sum := "13ea9eae85e68824515a03bbac5d20c8b823c9956818dff2736c6fa9d966e5e3", func := "witting/wittinglaw24.AgreementChecks", spec := "agreementChecks", unfollowed := true, recurses := true, named := ["math/bits.deBruijn64tab", "witting/partition.finest"], plainKeys := false, apart := false, laid := [("math/bits.deBruijn64tab", laid_math_bits_deBruijn64tab), ("witting/partition.finest", laid_witting_partition_finest)], narrowed := true }
def AgreementChecksUptoSaid : Prop := agreementChecksUptoRow.holds Tryd.pinned (OpenSpec.upto agreementChecksSpec)

/-- 'wittinglaw24.AgreementPosteriors', WHERE WHAT IT READS IS OF BULK AT MOST 1048576: true; the input reads as it did. -/
def agreementPosteriorsUptoRow : OpenClaim := { program := "ytfbgabcdeecpoaadoor", sum := "13ea9eae85e68824515a03bbac5d20c8b823c9956818dff2736c6fa9d966e5e3", func := "witting/wittinglaw24.AgreementPosteriors", spec := "agreementPosteriors", unfollowed := true, recurses := true, named := ["math/bits.deBruijn64tab", "witting/partition.finest"], plainKeys := false, apart := false, laid := [("math/bits.deBruijn64tab", laid_math_bits_deBruijn64tab), ("witting/partition.finest", laid_witting_partition_finest)], narrowed := true }
def AgreementPosteriorsUptoSaid : Prop := agreementPosteriorsUptoRow.holds Tryd.pinned (OpenSpec.upto agreementPosteriorsSpec)

/-- 'wittinglaw24.AgreementTells', WHERE WHAT IT READS IS OF BULK AT MOST 1048576: true; the input reads as it did. -/
def agreementTellsUptoRow : OpenClaim := { program := "ytfbgabcdeecpoaadoor", sum := "13ea9eae85e68824515a03bbac5d20c8b823c9956818dff2736c6fa9d966e5e3", func := "witting/wittinglaw24.AgreementTells", spec := "agreementTells", unfollowed := true, recurses := true, named := ["math/bits.deBruijn64tab", "witting/partition.finest"], plainKeys := false, apart := false, laid := [("math/bits.deBruijn64tab", laid_math_bits_deBruijn64tab), ("witting/partition.finest", laid_witting_partition_finest)], narrowed := true }
def AgreementTellsUptoSaid : Prop := agreementTellsUptoRow.holds Tryd.pinned (OpenSpec.upto agreementTellsSpec)

/-- 'wittinglaw24.AgreementExchanges', WHERE WHAT IT READS IS OF BULK AT MOST 1048576: true; the input reads as it did. -/
def agreementExchangesUptoRow : OpenClaim := { program := "ytfbgabcdeecpoaadoor", sum := "13ea9eae85e68824515a03bbac5d20c8b823c9956818dff2736c6fa9d966e5e3", func := "witting/wittinglaw24.AgreementExchanges", spec := "agreementExchanges", unfollowed := true, recurses := true, named := ["math/bits.deBruijn64tab", "witting/partition.finest"], plainKeys := false, apart := false, laid := [("math/bits.deBruijn64tab", laid_math_bits_deBruijn64tab), ("witting/partition.finest", laid_witting_partition_finest)], narrowed := true }
def AgreementExchangesUptoSaid : Prop := agreementExchangesUptoRow.holds Tryd.pinned (OpenSpec.upto agreementExchangesSpec)

/-- 'wittinglaw24.AgreementEnds', WHERE WHAT IT READS IS OF BULK AT MOST 1048576: true; the input reads as it did. -/
def agreementEndsUptoRow : OpenClaim := { program := "ytfbgabcdeecpoaadoor", sum := "13ea9eae85e68824515a03bbac5d20c8b823c9956818dff2736c6fa9d966e5e3", func := "witting/wittinglaw24.AgreementEnds", spec := "agreementEnds", unfollowed := true, recurses := true, named := ["math/bits.deBruijn64tab", "witting/partition.finest"], plainKeys := false, apart := false, laid := [("math/bits.deBruijn64tab", laid_math_bits_deBruijn64tab), ("witting/partition.finest", laid_witting_partition_finest)], narrowed := true }
def AgreementEndsUptoSaid : Prop := agreementEndsUptoRow.holds Tryd.pinned (OpenSpec.upto agreementEndsSpec)

/-- 'wittinglaw24.AgreementCannot', WHERE WHAT IT READS IS OF BULK AT MOST 1048576: true; the input reads as it did. -/
def agreementCannotUptoRow : OpenClaim := { program := "ytfbgabcdeecpoaadoor", sum := "13ea9eae85e68824515a03bbac5d20c8b823c9956818dff2736c6fa9d966e5e3", func := "witting/wittinglaw24.AgreementCannot", spec := "agreementCannot", unfollowed := true, recurses := true, named := ["math/bits.deBruijn64tab", "witting/partition.finest"], plainKeys := false, apart := false, laid := [("math/bits.deBruijn64tab", laid_math_bits_deBruijn64tab), ("witting/partition.finest", laid_witting_partition_finest)], narrowed := true }
def AgreementCannotUptoSaid : Prop := agreementCannotUptoRow.holds Tryd.pinned (OpenSpec.upto agreementCannotSpec)

/-- 'wittinglaw24.AgreementMeans', WHERE WHAT IT READS IS OF BULK AT MOST 1048576: true; the input reads as it did. -/
def agreementMeansUptoRow : OpenClaim := { program := "ytfbgabcdeecpoaadoor", sum := "13ea9eae85e68824515a03bbac5d20c8b823c9956818dff2736c6fa9d966e5e3", func := "witting/wittinglaw24.AgreementMeans", spec := "agreementMeans", unfollowed := true, recurses := true, named := ["math/bits.deBruijn64tab", "witting/partition.finest"], plainKeys := false, apart := false, laid := [("math/bits.deBruijn64tab", laid_math_bits_deBruijn64tab), ("witting/partition.finest", laid_witting_partition_finest)], narrowed := true }
def AgreementMeansUptoSaid : Prop := agreementMeansUptoRow.holds Tryd.pinned (OpenSpec.upto agreementMeansSpec)

/-- 'wittinglaw24.AgreementDivides', WHERE WHAT IT READS IS OF BULK AT MOST 1048576: true; the input reads as it did. -/
def agreementDividesUptoRow : OpenClaim := { program := "ytfbgabcdeecpoaadoor", sum := "13ea9eae85e68824515a03bbac5d20c8b823c9956818dff2736c6fa9d966e5e3", func := "witting/wittinglaw24.AgreementDivides", spec := "agreementDivides", unfollowed := true, recurses := true, named := ["math/bits.deBruijn64tab", "witting/partition.finest"], plainKeys := false, apart := false, laid := [("math/bits.deBruijn64tab", laid_math_bits_deBruijn64tab), ("witting/partition.finest", laid_witting_partition_finest)], narrowed := true }
def AgreementDividesUptoSaid : Prop := agreementDividesUptoRow.holds Tryd.pinned (OpenSpec.upto agreementDividesSpec)

/-- 'wittingtop.TopCommonReached', WHERE WHAT IT READS IS OF BULK AT MOST 1048576: true; the input reads as it did. -/
def topCommonReachedUptoRow : OpenClaim := { program := "ytfbgabcdeecpoaadoor", sum := "13ea9eae85e68824515a03bbac5d20c8b823c9956818dff2736c6fa9d966e5e3", func := "witting/wittingtop.TopCommonReached", spec := "topCommonReached", unfollowed := true, recurses := true, named := ["math/bits.deBruijn64tab", "witting/partition.finest"], plainKeys := false, apart := false, laid := [("math/bits.deBruijn64tab", laid_math_bits_deBruijn64tab), ("witting/partition.finest", laid_witting_partition_finest)], narrowed := true }
def TopCommonReachedUptoSaid : Prop := topCommonReachedUptoRow.holds Tryd.pinned (OpenSpec.upto topCommonReachedSpec)

/-- 'wittingtop.TopAgreedValue', WHERE WHAT IT READS IS OF BULK AT MOST 1048576: true; the input reads as it did. -/
def topAgreedValueUptoRow : OpenClaim := { program := "ytfbgabcdeecpoaadoor", sum := "13ea9eae85e68824515a03bbac5d20c8b823c9956818dff2736c6fa9d966e5e3", func := "witting/wittingtop.TopAgreedValue", spec := "topAgreedValue", unfollowed := true, recurses := true, named := ["math/bits.deBruijn64tab", "witting/partition.finest"], plainKeys := false, apart := false, laid := [("math/bits.deBruijn64tab", laid_math_bits_deBruijn64tab), ("witting/partition.finest", laid_witting_partition_finest)], narrowed := true }
def TopAgreedValueUptoSaid : Prop := topAgreedValueUptoRow.holds Tryd.pinned (OpenSpec.upto topAgreedValueSpec)

end Rows
end Go.Proofs.YtfbgabcdeecpoaaDoor
