/-
  NARROWER THAN 'FOR EVERY INPUT', by the rows' own cells (each row's printed sentence says how): ResolutionTables: laid.
  DERIVED. THE GIVEN ROWS OF THIS SEAT. 1 by the template 'for every input the law returns true; each argument reads behind the call as it read before'; 0 by the template 'total and deterministic' (their statements: YtopkmcoblndokaaDoorTotals.lean).
  GIVEN WITH THE SEED: the statements are not yours to turn. If you find one false, say at which input.
  Laid BY PROGRAM, IN A SANDBOX (cutbox-rows.mjs): the forced cells as the released guide's own fill.sh prints them over the translation fb282a68524129f8… (all of the seat's roots in one cut). By AI agents, Wed Nov 11 2026. No macro, syntax, notation, axiom, sorry.
-/
import Derived.Test.YtopkmcoblndokaaDoorChecked
import GoSem.Claim
import GoSem.ClaimJoined
import GoSem.ClaimMapViews
import Derived.JoinedTies
import Derived.KernelRfl
namespace Go.Proofs.YtopkmcoblndokaaDoor
/- THE CELL 'sum', in the pinned program and in every row, IS THE sha256 OF THE DUMP (.gsa) THAT YtopkmcoblndokaaDoorProg.lean LOADS. Nothing in Lean hashes anything: it is a label: what it is worth is what the hold of that sum in a sandbox is worth. -/
noncomputable def Tryd.pinned : Pinned := { name := "ytopkmcoblndokaadoor", sum := "fb282a68524129f8558e06adbb03b5015e44172b93cf562ebf38aef53e5501ae", checked := Tryd.checked }
namespace Rows
def none {H : Type} : Left H := { results := [], args := [] }

/- WHAT THE LISTED PACKAGE-LEVEL VARIABLES READ AS WHEN THE CALL BEGINS. Each datum BY PROGRAM (the guide's laid-datum.mjs) off the statement by which the dump's own 'gosem.cut.vars' lays the variable. In a bare row this is a premise. The card (YtopkmcoblndokaaDoorCards.lean) ties it to the program's text. -/
def laid_witting_boolean_columns {H : Type} : DataW H := .agg [.lit (.int .u64 12297829382473034410), .lit (.int .u64 14757395258967641292), .lit (.int .u64 17361641481138401520), .lit (.int .u64 18374966859414961920), .lit (.int .u64 18446462603027742720), .lit (.int .u64 18446744069414584320)]

/-- 'wittinglaw10.ResolutionTables': WHATEVER THE INPUT: true; the input reads as it did. -/
def resolutionTablesSpec : ChangeSpec := { name := "resolutionTables", fn := fun _ => fun
  | [d1, d2] => { results := [.lit (.bool true)], args := [d1, d2] }
  | _ => none }
def resolutionTablesRow : OpenClaim := { program := "ytopkmcoblndokaadoor", sum := "fb282a68524129f8558e06adbb03b5015e44172b93cf562ebf38aef53e5501ae", func := "witting/wittinglaw10.ResolutionTables", spec := "resolutionTables", unfollowed := true, recurses := true, named := ["witting/boolean.columns"], plainKeys := false, apart := false, laid := [("witting/boolean.columns", laid_witting_boolean_columns)] }
def ResolutionTablesSaid : Prop := resolutionTablesRow.holds Tryd.pinned (OpenSpec.ofChange resolutionTablesSpec)

/-- ITS FALSE NEIGHBOUR: 'it returns false'. Refute it at one input. -/
def resolutionTablesWrong : ChangeSpec := { name := "resolutionTables", fn := fun _ => fun
  | [d1, d2] => { results := [.lit (.bool false)], args := [d1, d2] }
  | _ => none }
def ResolutionTablesWrongFalsely : Prop := resolutionTablesRow.holds Tryd.pinned (OpenSpec.ofChange resolutionTablesWrong)

/- THE SECOND FORM. 'bulk': how many values and letters a reading holds, each counted each time it is reached (what is shared counts as often as it is met; a slice's spare places count too). A statement '..UptoSaid' is the law's where the arguments, and the package variables that the reading takes, are together of bulk at most 1048576: NARROWER than '..Said'. Prove '..Said' where nothing that the law and all that it calls make is longer than what came in: it says more and counts as full. Else prove '..UptoSaid'. A law counts once. -/
mutual
def uptoBulk {H : Type} : DataW H → Nat
  | .lit (.string bytes) => bytes.length + 1
  | .lit _ => 1
  | .nil => 1
  | .ptr d => uptoBulk d + 1
  | .slice elems spare => uptoBulkAll elems + uptoBulkAll spare + 1
  | .agg parts => uptoBulkAll parts + 1
  | .iface _ d => uptoBulk d + 1
  | .map entries => uptoBulkEntries entries + 1
  | .held _ => 1
def uptoBulkAll {H : Type} : List (DataW H) → Nat
  | [] => 0
  | d :: r => uptoBulk d + uptoBulkAll r
def uptoBulkEntries {H : Type} : List (Lit × DataW H) → Nat
  | [] => 0
  | x :: r => uptoBulkEntry x + uptoBulkEntries r
def uptoBulkEntry {H : Type} : Lit × DataW H → Nat
  | (.string bytes, d) => bytes.length + uptoBulk d + 1
  | (_, d) => uptoBulk d + 1
 end
def uptoSmall : (H : Type) → List (DataW H) → Bool := fun _ ds => decide (uptoBulkAll ds ≤ 1048576)
def OpenSpec.upto (s : _root_.Go.ChangeSpec) : _root_.Go.OpenSpec := { _root_.Go.OpenSpec.ofChange s with cond := some uptoSmall }

/-- 'wittinglaw10.ResolutionTables', WHERE WHAT IT READS IS OF BULK AT MOST 1048576: true; the input reads as it did. -/
def resolutionTablesUptoRow : OpenClaim := { program := "ytopkmcoblndokaadoor", sum := "fb282a68524129f8558e06adbb03b5015e44172b93cf562ebf38aef53e5501ae", func := "witting/wittinglaw10.ResolutionTables", spec := "resolutionTables", unfollowed := true, recurses := true, named := ["witting/boolean.columns"], plainKeys := false, apart := false, laid := [("witting/boolean.columns", laid_witting_boolean_columns)], narrowed := true }
def ResolutionTablesUptoSaid : Prop := resolutionTablesUptoRow.holds Tryd.pinned (OpenSpec.upto resolutionTablesSpec)

end Rows
end Go.Proofs.YtopkmcoblndokaaDoor
