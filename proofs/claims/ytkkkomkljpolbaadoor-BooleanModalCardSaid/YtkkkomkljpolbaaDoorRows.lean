/-
  NARROWER THAN 'FOR EVERY INPUT', by the rows' own cells (each row's printed sentence says how): RewriteSimplify: laid · RewriteLists: laid · RewriteMeans: laid · BooleanTables: laid · BooleanAtoms: laid · BooleanTautologies: laid · BooleanPrimes: laid · BooleanBack: laid · BooleanFull: laid · BooleanCovers: laid · BooleanModal: laid.
  DERIVED. THE GIVEN ROWS OF THIS SEAT. 11 by the template 'for every input the law returns true; each argument reads behind the call as it read before'; 0 by the template 'total and deterministic' (their statements: YtkkkomkljpolbaaDoorTotals.lean).
  GIVEN WITH THE SEED: the statements are not yours to turn. If you find one false, say at which input.
  Laid BY PROGRAM, IN A SANDBOX (cutbox-rows.mjs): the forced cells as the released guide's own fill.sh prints them over the translation 521df70d10490e97… (all of the seat's roots in one cut). By AI agents, Wed Nov 11 2026. No macro, syntax, notation, axiom, sorry.
-/
import Derived.Test.YtkkkomkljpolbaaDoorChecked
import GoSem.Claim
import GoSem.ClaimJoined
import GoSem.ClaimMapViews
import Derived.JoinedTies
import Derived.KernelRfl
namespace Go.Proofs.YtkkkomkljpolbaaDoor
/- THE CELL 'sum', in the pinned program and in every row, IS THE sha256 OF THE DUMP (.gsa) THAT YtkkkomkljpolbaaDoorProg.lean LOADS. Nothing in Lean hashes anything: it is a label: what it is worth is what the hold of that sum in a sandbox is worth. -/
noncomputable def Tryd.pinned : Pinned := { name := "ytkkkomkljpolbaadoor", sum := "521df70d10490e972607562beb24de1fa51944548f904104a503a6aacb9a1846", checked := Tryd.checked }
namespace Rows
def none {H : Type} : Left H := { results := [], args := [] }

/- WHAT THE LISTED PACKAGE-LEVEL VARIABLES READ AS WHEN THE CALL BEGINS. Each datum BY PROGRAM (the guide's laid-datum.mjs) off the statement by which the dump's own 'gosem.cut.vars' lays the variable. In a bare row this is a premise. The card (YtkkkomkljpolbaaDoorCards.lean) ties it to the program's text. -/
def laid_witting_rewrite_operands {H : Type} : DataW H := .agg [.lit (.int .i64 0), .lit (.int .i64 0), .lit (.int .i64 0), .lit (.int .i64 0), .lit (.int .i64 1), .lit (.int .i64 2), .lit (.int .i64 2), .lit (.int .i64 2), .lit (.int .i64 2), .lit (.int .i64 1), .lit (.int .i64 1), .lit (.int .i64 1), .lit (.int .i64 1), .lit (.int .i64 2), .lit (.int .i64 2), .lit (.int .i64 1), .lit (.int .i64 2), .lit (.int .i64 1), .lit (.int .i64 1), .lit (.int .i64 2), .lit (.int .i64 1), .lit (.int .i64 2)]
def laid_witting_rewrite_duals {H : Type} : DataW H := .agg [.lit (.int .i64 0), .lit (.int .i64 2), .lit (.int .i64 1), .lit (.int .i64 0), .lit (.int .i64 0), .lit (.int .i64 6), .lit (.int .i64 5), .lit (.int .i64 0), .lit (.int .i64 0), .lit (.int .i64 10), .lit (.int .i64 9), .lit (.int .i64 0), .lit (.int .i64 0), .lit (.int .i64 0), .lit (.int .i64 0), .lit (.int .i64 0), .lit (.int .i64 0), .lit (.int .i64 0), .lit (.int .i64 0), .lit (.int .i64 0), .lit (.int .i64 0), .lit (.int .i64 0)]
def laid_witting_boolean_columns {H : Type} : DataW H := .agg [.lit (.int .u64 12297829382473034410), .lit (.int .u64 14757395258967641292), .lit (.int .u64 17361641481138401520), .lit (.int .u64 18374966859414961920), .lit (.int .u64 18446462603027742720), .lit (.int .u64 18446744069414584320)]

/-- 'wittinglaw08.RewriteSimplify': WHATEVER THE INPUT: true; the input reads as it did. -/
def rewriteSimplifySpec : ChangeSpec := { name := "rewriteSimplify", fn := fun _ => fun
  | [d] => { results := [.lit (.bool true)], args := [d] }
  | _ => none }
def rewriteSimplifyRow : OpenClaim := { program := "ytkkkomkljpolbaadoor", sum := "521df70d10490e972607562beb24de1fa51944548f904104a503a6aacb9a1846", func := "witting/wittinglaw08.RewriteSimplify", spec := "rewriteSimplify", unfollowed := true, recurses := true, named := ["witting/rewrite.operands", "witting/rewrite.duals"], plainKeys := false, apart := false, laid := [("witting/rewrite.operands", laid_witting_rewrite_operands), ("witting/rewrite.duals", laid_witting_rewrite_duals)] }
def RewriteSimplifySaid : Prop := rewriteSimplifyRow.holds Tryd.pinned (OpenSpec.ofChange rewriteSimplifySpec)

/-- ITS FALSE NEIGHBOUR: 'it returns false'. Refute it at one input. -/
def rewriteSimplifyWrong : ChangeSpec := { name := "rewriteSimplify", fn := fun _ => fun
  | [d] => { results := [.lit (.bool false)], args := [d] }
  | _ => none }
def RewriteSimplifyWrongFalsely : Prop := rewriteSimplifyRow.holds Tryd.pinned (OpenSpec.ofChange rewriteSimplifyWrong)

/-- 'wittinglaw08.RewriteLists': WHATEVER THE INPUT: true; the input reads as it did. -/
def rewriteListsSpec : ChangeSpec := { name := "rewriteLists", fn := fun _ => fun
  | [d] => { results := [.lit (.bool true)], args := [d] }
  | _ => none }
def rewriteListsRow : OpenClaim := { program := "ytkkkomkljpolbaadoor", sum := "521df70d10490e972607562beb24de1fa51944548f904104a503a6aacb9a1846", func := "witting/wittinglaw08.RewriteLists", spec := "rewriteLists", unfollowed := true, recurses := true, named := ["witting/rewrite.operands", "witting/rewrite.duals"], plainKeys := false, apart := false, laid := [("witting/rewrite.operands", laid_witting_rewrite_operands), ("witting/rewrite.duals", laid_witting_rewrite_duals)] }
def RewriteListsSaid : Prop := rewriteListsRow.holds Tryd.pinned (OpenSpec.ofChange rewriteListsSpec)

/-- ITS FALSE NEIGHBOUR: 'it returns false'. Refute it at one input. -/
def rewriteListsWrong : ChangeSpec := { name := "rewriteLists", fn := fun _ => fun
  | [d] => { results := [.lit (.bool false)], args := [d] }
  | _ => none }
def RewriteListsWrongFalsely : Prop := rewriteListsRow.holds Tryd.pinned (OpenSpec.ofChange rewriteListsWrong)

/-- 'wittinglaw08.RewriteMeans': WHATEVER THE INPUT: true; the input reads as it did. -/
def rewriteMeansSpec : ChangeSpec := { name := "rewriteMeans", fn := fun _ => fun
  | [d1, d2] => { results := [.lit (.bool true)], args := [d1, d2] }
  | _ => none }
def rewriteMeansRow : OpenClaim := { program := "ytkkkomkljpolbaadoor", sum := "521df70d10490e972607562beb24de1fa51944548f904104a503a6aacb9a1846", func := "witting/wittinglaw08.RewriteMeans", spec := "rewriteMeans", unfollowed := true, recurses := true, named := ["witting/rewrite.operands", "witting/rewrite.duals"], plainKeys := false, apart := false, laid := [("witting/rewrite.operands", laid_witting_rewrite_operands), ("witting/rewrite.duals", laid_witting_rewrite_duals)] }
def RewriteMeansSaid : Prop := rewriteMeansRow.holds Tryd.pinned (OpenSpec.ofChange rewriteMeansSpec)

/-- ITS FALSE NEIGHBOUR: 'it returns false'. Refute it at one input. -/
def rewriteMeansWrong : ChangeSpec := { name := "rewriteMeans", fn := fun _ => fun
  | [d1, d2] => { results := [.lit (.bool false)], args := [d1, d2] }
  | _ => none }
def RewriteMeansWrongFalsely : Prop := rewriteMeansRow.holds Tryd.pinned (OpenSpec.ofChange rewriteMeansWrong)

/-- 'wittinglaw09.BooleanTables': WHATEVER THE INPUT: true; the input reads as it did. -/
def booleanTablesSpec : ChangeSpec := { name := "booleanTables", fn := fun _ => fun
  | [d1, d2] => { results := [.lit (.bool true)], args := [d1, d2] }
  | _ => none }
def booleanTablesRow : OpenClaim := { program := "ytkkkomkljpolbaadoor", sum := "521df70d10490e972607562beb24de1fa51944548f904104a503a6aacb9a1846", func := "witting/wittinglaw09.BooleanTables", spec := "booleanTables", unfollowed := true, recurses := true, named := ["witting/boolean.columns"], plainKeys := false, apart := false, laid := [("witting/boolean.columns", laid_witting_boolean_columns)] }
def BooleanTablesSaid : Prop := booleanTablesRow.holds Tryd.pinned (OpenSpec.ofChange booleanTablesSpec)

/-- ITS FALSE NEIGHBOUR: 'it returns false'. Refute it at one input. -/
def booleanTablesWrong : ChangeSpec := { name := "booleanTables", fn := fun _ => fun
  | [d1, d2] => { results := [.lit (.bool false)], args := [d1, d2] }
  | _ => none }
def BooleanTablesWrongFalsely : Prop := booleanTablesRow.holds Tryd.pinned (OpenSpec.ofChange booleanTablesWrong)

/-- 'wittinglaw09.BooleanAtoms': WHATEVER THE INPUT: true; the input reads as it did. -/
def booleanAtomsSpec : ChangeSpec := { name := "booleanAtoms", fn := fun _ => fun
  | [d] => { results := [.lit (.bool true)], args := [d] }
  | _ => none }
def booleanAtomsRow : OpenClaim := { program := "ytkkkomkljpolbaadoor", sum := "521df70d10490e972607562beb24de1fa51944548f904104a503a6aacb9a1846", func := "witting/wittinglaw09.BooleanAtoms", spec := "booleanAtoms", unfollowed := true, recurses := true, named := ["witting/boolean.columns"], plainKeys := false, apart := false, laid := [("witting/boolean.columns", laid_witting_boolean_columns)] }
def BooleanAtomsSaid : Prop := booleanAtomsRow.holds Tryd.pinned (OpenSpec.ofChange booleanAtomsSpec)

/-- ITS FALSE NEIGHBOUR: 'it returns false'. Refute it at one input. -/
def booleanAtomsWrong : ChangeSpec := { name := "booleanAtoms", fn := fun _ => fun
  | [d] => { results := [.lit (.bool false)], args := [d] }
  | _ => none }
def BooleanAtomsWrongFalsely : Prop := booleanAtomsRow.holds Tryd.pinned (OpenSpec.ofChange booleanAtomsWrong)

/-- 'wittinglaw09.BooleanTautologies': WHATEVER THE INPUT: true; the input reads as it did. -/
def booleanTautologiesSpec : ChangeSpec := { name := "booleanTautologies", fn := fun _ => fun
  | [d] => { results := [.lit (.bool true)], args := [d] }
  | _ => none }
def booleanTautologiesRow : OpenClaim := { program := "ytkkkomkljpolbaadoor", sum := "521df70d10490e972607562beb24de1fa51944548f904104a503a6aacb9a1846", func := "witting/wittinglaw09.BooleanTautologies", spec := "booleanTautologies", unfollowed := true, recurses := true, named := ["witting/boolean.columns"], plainKeys := false, apart := false, laid := [("witting/boolean.columns", laid_witting_boolean_columns)] }
def BooleanTautologiesSaid : Prop := booleanTautologiesRow.holds Tryd.pinned (OpenSpec.ofChange booleanTautologiesSpec)

/-- ITS FALSE NEIGHBOUR: 'it returns false'. Refute it at one input. -/
def booleanTautologiesWrong : ChangeSpec := { name := "booleanTautologies", fn := fun _ => fun
  | [d] => { results := [.lit (.bool false)], args := [d] }
  | _ => none }
def BooleanTautologiesWrongFalsely : Prop := booleanTautologiesRow.holds Tryd.pinned (OpenSpec.ofChange booleanTautologiesWrong)

/-- 'wittinglaw09.BooleanPrimes': WHATEVER THE INPUT: true; the input reads as it did. -/
def booleanPrimesSpec : ChangeSpec := { name := "booleanPrimes", fn := fun _ => fun
  | [d1, d2] => { results := [.lit (.bool true)], args := [d1, d2] }
  | _ => none }
def booleanPrimesRow : OpenClaim := { program := "ytkkkomkljpolbaadoor", sum := "521df70d10490e972607562beb24de1fa51944548f904104a503a6aacb9a1846", func := "witting/wittinglaw09.BooleanPrimes", spec := "booleanPrimes", unfollowed := true, recurses := true, named := ["witting/boolean.columns"], plainKeys := false, apart := false, laid := [("witting/boolean.columns", laid_witting_boolean_columns)] }
def BooleanPrimesSaid : Prop := booleanPrimesRow.holds Tryd.pinned (OpenSpec.ofChange booleanPrimesSpec)

/-- ITS FALSE NEIGHBOUR: 'it returns false'. Refute it at one input. -/
def booleanPrimesWrong : ChangeSpec := { name := "booleanPrimes", fn := fun _ => fun
  | [d1, d2] => { results := [.lit (.bool false)], args := [d1, d2] }
  | _ => none }
def BooleanPrimesWrongFalsely : Prop := booleanPrimesRow.holds Tryd.pinned (OpenSpec.ofChange booleanPrimesWrong)

/-- 'wittinglaw09.BooleanBack': WHATEVER THE INPUT: true; the input reads as it did. -/
def booleanBackSpec : ChangeSpec := { name := "booleanBack", fn := fun _ => fun
  | [d1, d2] => { results := [.lit (.bool true)], args := [d1, d2] }
  | _ => none }
def booleanBackRow : OpenClaim := { program := "ytkkkomkljpolbaadoor", sum := "521df70d10490e972607562beb24de1fa51944548f904104a503a6aacb9a1846", func := "witting/wittinglaw09.BooleanBack", spec := "booleanBack", unfollowed := true, recurses := true, named := ["witting/rewrite.operands", "witting/boolean.columns"], plainKeys := false, apart := false, laid := [("witting/rewrite.operands", laid_witting_rewrite_operands), ("witting/boolean.columns", laid_witting_boolean_columns)] }
def BooleanBackSaid : Prop := booleanBackRow.holds Tryd.pinned (OpenSpec.ofChange booleanBackSpec)

/-- ITS FALSE NEIGHBOUR: 'it returns false'. Refute it at one input. -/
def booleanBackWrong : ChangeSpec := { name := "booleanBack", fn := fun _ => fun
  | [d1, d2] => { results := [.lit (.bool false)], args := [d1, d2] }
  | _ => none }
def BooleanBackWrongFalsely : Prop := booleanBackRow.holds Tryd.pinned (OpenSpec.ofChange booleanBackWrong)

/-- 'wittinglaw09.BooleanFull': WHATEVER THE INPUT: true; the input reads as it did. -/
def booleanFullSpec : ChangeSpec := { name := "booleanFull", fn := fun _ => fun
  | [d] => { results := [.lit (.bool true)], args := [d] }
  | _ => none }
def booleanFullRow : OpenClaim := { program := "ytkkkomkljpolbaadoor", sum := "521df70d10490e972607562beb24de1fa51944548f904104a503a6aacb9a1846", func := "witting/wittinglaw09.BooleanFull", spec := "booleanFull", unfollowed := true, recurses := true, named := ["witting/boolean.columns"], plainKeys := false, apart := false, laid := [("witting/boolean.columns", laid_witting_boolean_columns)] }
def BooleanFullSaid : Prop := booleanFullRow.holds Tryd.pinned (OpenSpec.ofChange booleanFullSpec)

/-- ITS FALSE NEIGHBOUR: 'it returns false'. Refute it at one input. -/
def booleanFullWrong : ChangeSpec := { name := "booleanFull", fn := fun _ => fun
  | [d] => { results := [.lit (.bool false)], args := [d] }
  | _ => none }
def BooleanFullWrongFalsely : Prop := booleanFullRow.holds Tryd.pinned (OpenSpec.ofChange booleanFullWrong)

/-- 'wittinglaw09.BooleanCovers': WHATEVER THE INPUT: true; the input reads as it did. -/
def booleanCoversSpec : ChangeSpec := { name := "booleanCovers", fn := fun _ => fun
  | [d] => { results := [.lit (.bool true)], args := [d] }
  | _ => none }
def booleanCoversRow : OpenClaim := { program := "ytkkkomkljpolbaadoor", sum := "521df70d10490e972607562beb24de1fa51944548f904104a503a6aacb9a1846", func := "witting/wittinglaw09.BooleanCovers", spec := "booleanCovers", unfollowed := true, recurses := true, named := ["witting/boolean.columns"], plainKeys := false, apart := false, laid := [("witting/boolean.columns", laid_witting_boolean_columns)] }
def BooleanCoversSaid : Prop := booleanCoversRow.holds Tryd.pinned (OpenSpec.ofChange booleanCoversSpec)

/-- ITS FALSE NEIGHBOUR: 'it returns false'. Refute it at one input. -/
def booleanCoversWrong : ChangeSpec := { name := "booleanCovers", fn := fun _ => fun
  | [d] => { results := [.lit (.bool false)], args := [d] }
  | _ => none }
def BooleanCoversWrongFalsely : Prop := booleanCoversRow.holds Tryd.pinned (OpenSpec.ofChange booleanCoversWrong)

/-- 'wittinglaw09.BooleanModal': WHATEVER THE INPUT: true; the input reads as it did. -/
def booleanModalSpec : ChangeSpec := { name := "booleanModal", fn := fun _ => fun
  | [d1, d2] => { results := [.lit (.bool true)], args := [d1, d2] }
  | _ => none }
def booleanModalRow : OpenClaim := { program := "ytkkkomkljpolbaadoor", sum := "521df70d10490e972607562beb24de1fa51944548f904104a503a6aacb9a1846", func := "witting/wittinglaw09.BooleanModal", spec := "booleanModal", unfollowed := true, recurses := true, named := ["witting/boolean.columns"], plainKeys := false, apart := false, laid := [("witting/boolean.columns", laid_witting_boolean_columns)] }
def BooleanModalSaid : Prop := booleanModalRow.holds Tryd.pinned (OpenSpec.ofChange booleanModalSpec)

/-- ITS FALSE NEIGHBOUR: 'it returns false'. Refute it at one input. -/
def booleanModalWrong : ChangeSpec := { name := "booleanModal", fn := fun _ => fun
  | [d1, d2] => { results := [.lit (.bool false)], args := [d1, d2] }
  | _ => none }
def BooleanModalWrongFalsely : Prop := booleanModalRow.holds Tryd.pinned (OpenSpec.ofChange booleanModalWrong)

/- THE SECOND FORM. 'bulk': how many values and letters a reading holds, each counted each time it is reached (what is shared counts as often as it is met; a slice's spare places count too). A statement '..UptoSaid' is the law's where the arguments, and the package variables that the reading takes, are together of bulk at most 1048576: NARROWER than '..Said'. Prove '..Said' where nothing that the law and all that it calls make is longer than what came in: it says more and counts as full. Else prove '..UptoSaid'. A law counts once. -/
mutual
def uptoBulk {H : Type} : DataW H → Nat
  | .lit (.string bytes) => bytes.length + 1
  | .lit _ => 1
  | .nil => 1
  | .ptr d => uptoBulk d + 1
  | .slice elems spare => uptoBulkAll elems + uptoBulkAll spare + 1
  | .agg parts => uptoBulkAll parts + 1
  | .iface _ d => uptoBulk d + 1
  | .map entries => uptoBulkEntries entries + 1
  | .held _ => 1
def uptoBulkAll {H : Type} : List (DataW H) → Nat
  | [] => 0
  | d :: r => uptoBulk d + uptoBulkAll r
def uptoBulkEntries {H : Type} : List (Lit × DataW H) → Nat
  | [] => 0
  | x :: r => uptoBulkEntry x + uptoBulkEntries r
def uptoBulkEntry {H : Type} : Lit × DataW H → Nat
  | (.string bytes, d) => bytes.length + uptoBulk d + 1
  | (_, d) => uptoBulk d + 1
 end
def uptoSmall : (H : Type) → List (DataW H) → Bool := fun _ ds => decide (uptoBulkAll ds ≤ 1048576)
def OpenSpec.upto (s : _root_.Go.ChangeSpec) : _root_.Go.OpenSpec := { _root_.Go.OpenSpec.ofChange s with cond := some uptoSmall }

/-- 'wittinglaw08.RewriteSimplify', WHERE WHAT IT READS IS OF BULK AT MOST 1048576: true; the input reads as it did. -/
def rewriteSimplifyUptoRow : OpenClaim := { program := "ytkkkomkljpolbaadoor", sum := "521df70d10490e972607562beb24de1fa51944548f904104a503a6aacb9a1846", func := "witting/wittinglaw08.RewriteSimplify", spec := "rewriteSimplify", unfollowed := true, recurses := true, named := ["witting/rewrite.operands", "witting/rewrite.duals"], plainKeys := false, apart := false, laid := [("witting/rewrite.operands", laid_witting_rewrite_operands), ("witting/rewrite.duals", laid_witting_rewrite_duals)], narrowed := true }
def RewriteSimplifyUptoSaid : Prop := rewriteSimplifyUptoRow.holds Tryd.pinned (OpenSpec.upto rewriteSimplifySpec)

/-- 'wittinglaw08.RewriteLists', WHERE WHAT IT READS IS OF BULK AT MOST 1048576: true; the input reads as it did. -/
def rewriteListsUptoRow : OpenClaim := { program := "ytkkkomkljpolbaadoor", sum := "521df70d10490e972607562beb24de1fa51944548f904104a503a6aacb9a1846", func := "witting/wittinglaw08.RewriteLists", spec := "rewriteLists", unfollowed := true, recurses := true, named := ["witting/rewrite.operands", "witting/rewrite.duals"], plainKeys := false, apart := false, laid := [("witting/rewrite.operands", laid_witting_rewrite_operands), ("witting/rewrite.duals", laid_witting_rewrite_duals)], narrowed := true }
def RewriteListsUptoSaid : Prop := rewriteListsUptoRow.holds Tryd.pinned (OpenSpec.upto rewriteListsSpec)

/-- 'wittinglaw08.RewriteMeans', WHERE WHAT IT READS IS OF BULK AT MOST 1048576: true; the input reads as it did. -/
def rewriteMeansUptoRow : OpenClaim := { program := "ytkkkomkljpolbaadoor", sum := "521df70d10490e972607562beb24de1fa51944548f904104a503a6aacb9a1846", func := "witting/wittinglaw08.RewriteMeans", spec := "rewriteMeans", unfollowed := true, recurses := true, named := ["witting/rewrite.operands", "witting/rewrite.duals"], plainKeys := false, apart := false, laid := [("witting/rewrite.operands", laid_witting_rewrite_operands), ("witting/rewrite.duals", laid_witting_rewrite_duals)], narrowed := true }
def RewriteMeansUptoSaid : Prop := rewriteMeansUptoRow.holds Tryd.pinned (OpenSpec.upto rewriteMeansSpec)

/-- 'wittinglaw09.BooleanTables', WHERE WHAT IT READS IS OF BULK AT MOST 1048576: true; the input reads as it did. -/
def booleanTablesUptoRow : OpenClaim := { program := "ytkkkomkljpolbaadoor", sum := "521df70d10490e972607562beb24de1fa51944548f904104a503a6aacb9a1846", func := "witting/wittinglaw09.BooleanTables", spec := "booleanTables", unfollowed := true, recurses := true, named := ["witting/boolean.columns"], plainKeys := false, apart := false, laid := [("witting/boolean.columns", laid_witting_boolean_columns)], narrowed := true }
def BooleanTablesUptoSaid : Prop := booleanTablesUptoRow.holds Tryd.pinned (OpenSpec.upto booleanTablesSpec)

/-- 'wittinglaw09.BooleanAtoms', WHERE WHAT IT READS IS OF BULK AT MOST 1048576: true; the input reads as it did. -/
def booleanAtomsUptoRow : OpenClaim := { program := "ytkkkomkljpolbaadoor", sum := "521df70d10490e972607562beb24de1fa51944548f904104a503a6aacb9a1846", func := "witting/wittinglaw09.BooleanAtoms", spec := "booleanAtoms", unfollowed := true, recurses := true, named := ["witting/boolean.columns"], plainKeys := false, apart := false, laid := [("witting/boolean.columns", laid_witting_boolean_columns)], narrowed := true }
def BooleanAtomsUptoSaid : Prop := booleanAtomsUptoRow.holds Tryd.pinned (OpenSpec.upto booleanAtomsSpec)

/-- 'wittinglaw09.BooleanTautologies', WHERE WHAT IT READS IS OF BULK AT MOST 1048576: true; the input reads as it did. -/
def booleanTautologiesUptoRow : OpenClaim := { program := "ytkkkomkljpolbaadoor", sum := "521df70d10490e972607562beb24de1fa51944548f904104a503a6aacb9a1846", func := "witting/wittinglaw09.BooleanTautologies", spec := "booleanTautologies", unfollowed := true, recurses := true, named := ["witting/boolean.columns"], plainKeys := false, apart := false, laid := [("witting/boolean.columns", laid_witting_boolean_columns)], narrowed := true }
def BooleanTautologiesUptoSaid : Prop := booleanTautologiesUptoRow.holds Tryd.pinned (OpenSpec.upto booleanTautologiesSpec)

/-- 'wittinglaw09.BooleanPrimes', WHERE WHAT IT READS IS OF BULK AT MOST 1048576: true; the input reads as it did. -/
def booleanPrimesUptoRow : OpenClaim := { program := "ytkkkomkljpolbaadoor", sum := "521df70d10490e972607562beb24de1fa51944548f904104a503a6aacb9a1846", func := "witting/wittinglaw09.BooleanPrimes", spec := "booleanPrimes", unfollowed := true, recurses := true, named := ["witting/boolean.columns"], plainKeys := false, apart := false, laid := [("witting/boolean.columns", laid_witting_boolean_columns)], narrowed := true }
def BooleanPrimesUptoSaid : Prop := booleanPrimesUptoRow.holds Tryd.pinned (OpenSpec.upto booleanPrimesSpec)

/-- 'wittinglaw09.BooleanBack', WHERE WHAT IT READS IS OF BULK AT MOST 1048576: true; the input reads as it did. -/
def booleanBackUptoRow : OpenClaim := { program := "ytkkkomkljpolbaadoor", sum := "521df70d10490e972607562beb24de1fa51944548f904104a503a6aacb9a1846", func := "witting/wittinglaw09.BooleanBack", spec := "booleanBack", unfollowed := true, recurses := true, named := ["witting/rewrite.operands", "witting/boolean.columns"], plainKeys := false, apart := false, laid := [("witting/rewrite.operands", laid_witting_rewrite_operands), ("witting/boolean.columns", laid_witting_boolean_columns)], narrowed := true }
def BooleanBackUptoSaid : Prop := booleanBackUptoRow.holds Tryd.pinned (OpenSpec.upto booleanBackSpec)

/-- 'wittinglaw09.BooleanFull', WHERE WHAT IT READS IS OF BULK AT MOST 1048576: true; the input reads as it did. -/
def booleanFullUptoRow : OpenClaim := { program := "ytkkkomkljpolbaadoor", sum := "521df70d10490e972607562beb24de1fa51944548f904104a503a6aacb9a1846", func := "witting/wittinglaw09.BooleanFull", spec := "booleanFull", unfollowed := true, recurses := true, named := ["witting/boolean.columns"], plainKeys := false, apart := false, laid := [("witting/boolean.columns", laid_witting_boolean_columns)], narrowed := true }
def BooleanFullUptoSaid : Prop := booleanFullUptoRow.holds Tryd.pinned (OpenSpec.upto booleanFullSpec)

/-- 'wittinglaw09.BooleanCovers', WHERE WHAT IT READS IS OF BULK AT MOST 1048576: true; the input reads as it did. -/
def booleanCoversUptoRow : OpenClaim := { program := "ytkkkomkljpolbaadoor", sum := "521df70d10490e972607562beb24de1fa51944548f904104a503a6aacb9a1846", func := "witting/wittinglaw09.BooleanCovers", spec := "booleanCovers", unfollowed := true, recurses := true, named := ["witting/boolean.columns"], plainKeys := false, apart := false, laid := [("witting/boolean.columns", laid_witting_boolean_columns)], narrowed := true }
def BooleanCoversUptoSaid : Prop := booleanCoversUptoRow.holds Tryd.pinned (OpenSpec.upto booleanCoversSpec)

/-- 'wittinglaw09.BooleanModal', WHERE WHAT IT READS IS OF BULK AT MOST 1048576: true; the input reads as it did. -/
def booleanModalUptoRow : OpenClaim := { program := "ytkkkomkljpolbaadoor", sum := "521df70d10490e972607562beb24de1fa51944548f904104a503a6aacb9a1846", func := "witting/wittinglaw09.BooleanModal", spec := "booleanModal", unfollowed := true, recurses := true, named := ["witting/boolean.columns"], plainKeys := false, apart := false, laid := [("witting/boolean.columns", laid_witting_boolean_columns)], narrowed := true }
def BooleanModalUptoSaid : Prop := booleanModalUptoRow.holds Tryd.pinned (OpenSpec.upto booleanModalSpec)

end Rows
end Go.Proofs.YtkkkomkljpolbaaDoor
