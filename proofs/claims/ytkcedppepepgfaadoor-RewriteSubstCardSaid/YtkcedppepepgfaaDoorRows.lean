/-
  NARROWER THAN 'FOR EVERY INPUT', by the rows' own cells (each row's printed sentence says how): RewriteSimplify: laid · RewriteSubst: laid · RewriteLists: laid · RewriteMeans: laid · RewriteForms: laid · RewriteTwice: laid · RewriteClosed: laid.
  DERIVED. THE GIVEN ROWS OF THIS SEAT. 7 by the template 'for every input the law returns true; each argument reads behind the call as it read before'; 0 by the template 'total and deterministic' (their statements: YtkcedppepepgfaaDoorTotals.lean).
  GIVEN WITH THE SEED: the statements are not yours to turn. If you find one false, say at which input.
  Laid BY PROGRAM, IN A SANDBOX (cutbox-rows.mjs): the forced cells as the released guide's own fill.sh prints them over the translation a1a5544daffa8220… (all of the seat's roots in one cut). By AI agents, Wed Nov 11 2026. No macro, syntax, notation, axiom, sorry.
-/
import Derived.Test.YtkcedppepepgfaaDoorChecked
import GoSem.Claim
import GoSem.ClaimJoined
import GoSem.ClaimMapViews
import Derived.JoinedTies
import Derived.KernelRfl
namespace Go.Proofs.YtkcedppepepgfaaDoor
/- THE CELL 'sum', in the pinned program and in every row, IS THE sha256 OF THE DUMP (.gsa) THAT YtkcedppepepgfaaDoorProg.lean LOADS. Nothing in Lean hashes anything: it is a label: what it is worth is what the hold of that sum in a sandbox is worth. -/
noncomputable def Tryd.pinned : Pinned := { name := "ytkcedppepepgfaadoor", sum := "a1a5544daffa822088c758db1ae36e12c75c21ebd4b998471c52d3f33d7ecb66", checked := Tryd.checked }
namespace Rows
def none {H : Type} : Left H := { results := [], args := [] }

/- WHAT THE LISTED PACKAGE-LEVEL VARIABLES READ AS WHEN THE CALL BEGINS. Each datum BY PROGRAM (the guide's laid-datum.mjs) off the statement by which the dump's own 'gosem.cut.vars' lays the variable. In a bare row this is a premise. The card (YtkcedppepepgfaaDoorCards.lean) ties it to the program's text. -/
def laid_witting_rewrite_operands {H : Type} : DataW H := .agg [.lit (.int .i64 0), .lit (.int .i64 0), .lit (.int .i64 0), .lit (.int .i64 0), .lit (.int .i64 1), .lit (.int .i64 2), .lit (.int .i64 2), .lit (.int .i64 2), .lit (.int .i64 2), .lit (.int .i64 1), .lit (.int .i64 1), .lit (.int .i64 1), .lit (.int .i64 1), .lit (.int .i64 2), .lit (.int .i64 2), .lit (.int .i64 1), .lit (.int .i64 2), .lit (.int .i64 1), .lit (.int .i64 1), .lit (.int .i64 2), .lit (.int .i64 1), .lit (.int .i64 2)]
def laid_witting_rewrite_duals {H : Type} : DataW H := .agg [.lit (.int .i64 0), .lit (.int .i64 2), .lit (.int .i64 1), .lit (.int .i64 0), .lit (.int .i64 0), .lit (.int .i64 6), .lit (.int .i64 5), .lit (.int .i64 0), .lit (.int .i64 0), .lit (.int .i64 10), .lit (.int .i64 9), .lit (.int .i64 0), .lit (.int .i64 0), .lit (.int .i64 0), .lit (.int .i64 0), .lit (.int .i64 0), .lit (.int .i64 0), .lit (.int .i64 0), .lit (.int .i64 0), .lit (.int .i64 0), .lit (.int .i64 0), .lit (.int .i64 0)]

/-- 'wittinglaw08.RewriteSimplify': WHATEVER THE INPUT: true; the input reads as it did. -/
def rewriteSimplifySpec : ChangeSpec := { name := "rewriteSimplify", fn := fun _ => fun
  | [d] => { results := [.lit (.bool true)], args := [d] }
  | _ => none }
def rewriteSimplifyRow : OpenClaim := { program := "ytkcedppepepgfaadoor", sum := "a1a5544daffa822088c758db1ae36e12c75c21ebd4b998471c52d3f33d7ecb66", func := "witting/wittinglaw08.RewriteSimplify", spec := "rewriteSimplify", unfollowed := true, recurses := true, named := ["witting/rewrite.operands", "witting/rewrite.duals"], plainKeys := false, apart := false, laid := [("witting/rewrite.operands", laid_witting_rewrite_operands), ("witting/rewrite.duals", laid_witting_rewrite_duals)] }
def RewriteSimplifySaid : Prop := rewriteSimplifyRow.holds Tryd.pinned (OpenSpec.ofChange rewriteSimplifySpec)

/-- ITS FALSE NEIGHBOUR: 'it returns false'. Refute it at one input. -/
def rewriteSimplifyWrong : ChangeSpec := { name := "rewriteSimplify", fn := fun _ => fun
  | [d] => { results := [.lit (.bool false)], args := [d] }
  | _ => none }
def RewriteSimplifyWrongFalsely : Prop := rewriteSimplifyRow.holds Tryd.pinned (OpenSpec.ofChange rewriteSimplifyWrong)

/-- 'wittinglaw08.RewriteSubst': WHATEVER THE INPUT: true; the input reads as it did. -/
def rewriteSubstSpec : ChangeSpec := { name := "rewriteSubst", fn := fun _ => fun
  | [d1, d2] => { results := [.lit (.bool true)], args := [d1, d2] }
  | _ => none }
def rewriteSubstRow : OpenClaim := { program := "ytkcedppepepgfaadoor", sum := "a1a5544daffa822088c758db1ae36e12c75c21ebd4b998471c52d3f33d7ecb66", func := "witting/wittinglaw08.RewriteSubst", spec := "rewriteSubst", unfollowed := true, recurses := true, named := ["witting/rewrite.operands", "witting/rewrite.duals"], plainKeys := false, apart := false, laid := [("witting/rewrite.operands", laid_witting_rewrite_operands), ("witting/rewrite.duals", laid_witting_rewrite_duals)] }
def RewriteSubstSaid : Prop := rewriteSubstRow.holds Tryd.pinned (OpenSpec.ofChange rewriteSubstSpec)

/-- ITS FALSE NEIGHBOUR: 'it returns false'. Refute it at one input. -/
def rewriteSubstWrong : ChangeSpec := { name := "rewriteSubst", fn := fun _ => fun
  | [d1, d2] => { results := [.lit (.bool false)], args := [d1, d2] }
  | _ => none }
def RewriteSubstWrongFalsely : Prop := rewriteSubstRow.holds Tryd.pinned (OpenSpec.ofChange rewriteSubstWrong)

/-- 'wittinglaw08.RewriteLists': WHATEVER THE INPUT: true; the input reads as it did. -/
def rewriteListsSpec : ChangeSpec := { name := "rewriteLists", fn := fun _ => fun
  | [d] => { results := [.lit (.bool true)], args := [d] }
  | _ => none }
def rewriteListsRow : OpenClaim := { program := "ytkcedppepepgfaadoor", sum := "a1a5544daffa822088c758db1ae36e12c75c21ebd4b998471c52d3f33d7ecb66", func := "witting/wittinglaw08.RewriteLists", spec := "rewriteLists", unfollowed := true, recurses := true, named := ["witting/rewrite.operands", "witting/rewrite.duals"], plainKeys := false, apart := false, laid := [("witting/rewrite.operands", laid_witting_rewrite_operands), ("witting/rewrite.duals", laid_witting_rewrite_duals)] }
def RewriteListsSaid : Prop := rewriteListsRow.holds Tryd.pinned (OpenSpec.ofChange rewriteListsSpec)

/-- ITS FALSE NEIGHBOUR: 'it returns false'. Refute it at one input. -/
def rewriteListsWrong : ChangeSpec := { name := "rewriteLists", fn := fun _ => fun
  | [d] => { results := [.lit (.bool false)], args := [d] }
  | _ => none }
def RewriteListsWrongFalsely : Prop := rewriteListsRow.holds Tryd.pinned (OpenSpec.ofChange rewriteListsWrong)

/-- 'wittinglaw08.RewriteMeans': WHATEVER THE INPUT: true; the input reads as it did. -/
def rewriteMeansSpec : ChangeSpec := { name := "rewriteMeans", fn := fun _ => fun
  | [d1, d2] => { results := [.lit (.bool true)], args := [d1, d2] }
  | _ => none }
def rewriteMeansRow : OpenClaim := { program := "ytkcedppepepgfaadoor", sum := "a1a5544daffa822088c758db1ae36e12c75c21ebd4b998471c52d3f33d7ecb66", func := "witting/wittinglaw08.RewriteMeans", spec := "rewriteMeans", unfollowed := true, recurses := true, named := ["witting/rewrite.operands", "witting/rewrite.duals"], plainKeys := false, apart := false, laid := [("witting/rewrite.operands", laid_witting_rewrite_operands), ("witting/rewrite.duals", laid_witting_rewrite_duals)] }
def RewriteMeansSaid : Prop := rewriteMeansRow.holds Tryd.pinned (OpenSpec.ofChange rewriteMeansSpec)

/-- ITS FALSE NEIGHBOUR: 'it returns false'. Refute it at one input. -/
def rewriteMeansWrong : ChangeSpec := { name := "rewriteMeans", fn := fun _ => fun
  | [d1, d2] => { results := [.lit (.bool false)], args := [d1, d2] }
  | _ => none }
def RewriteMeansWrongFalsely : Prop := rewriteMeansRow.holds Tryd.pinned (OpenSpec.ofChange rewriteMeansWrong)

/-- 'wittinglaw08.RewriteForms': WHATEVER THE INPUT: true; the input reads as it did. -/
def rewriteFormsSpec : ChangeSpec := { name := "rewriteForms", fn := fun _ => fun
  | [d] => { results := [.lit (.bool true)], args := [d] }
  | _ => none }
def rewriteFormsRow : OpenClaim := { program := "ytkcedppepepgfaadoor", sum := "a1a5544daffa822088c758db1ae36e12c75c21ebd4b998471c52d3f33d7ecb66", func := "witting/wittinglaw08.RewriteForms", spec := "rewriteForms", unfollowed := true, recurses := true, named := ["witting/rewrite.operands", "witting/rewrite.duals"], plainKeys := false, apart := false, laid := [("witting/rewrite.operands", laid_witting_rewrite_operands), ("witting/rewrite.duals", laid_witting_rewrite_duals)] }
def RewriteFormsSaid : Prop := rewriteFormsRow.holds Tryd.pinned (OpenSpec.ofChange rewriteFormsSpec)

/-- ITS FALSE NEIGHBOUR: 'it returns false'. Refute it at one input. -/
def rewriteFormsWrong : ChangeSpec := { name := "rewriteForms", fn := fun _ => fun
  | [d] => { results := [.lit (.bool false)], args := [d] }
  | _ => none }
def RewriteFormsWrongFalsely : Prop := rewriteFormsRow.holds Tryd.pinned (OpenSpec.ofChange rewriteFormsWrong)

/-- 'wittinglaw08.RewriteTwice': WHATEVER THE INPUT: true; the input reads as it did. -/
def rewriteTwiceSpec : ChangeSpec := { name := "rewriteTwice", fn := fun _ => fun
  | [d1, d2, d3] => { results := [.lit (.bool true)], args := [d1, d2, d3] }
  | _ => none }
def rewriteTwiceRow : OpenClaim := { program := "ytkcedppepepgfaadoor", sum := "a1a5544daffa822088c758db1ae36e12c75c21ebd4b998471c52d3f33d7ecb66", func := "witting/wittinglaw08.RewriteTwice", spec := "rewriteTwice", unfollowed := true, recurses := true, named := ["witting/rewrite.operands", "witting/rewrite.duals"], plainKeys := false, apart := false, laid := [("witting/rewrite.operands", laid_witting_rewrite_operands), ("witting/rewrite.duals", laid_witting_rewrite_duals)] }
def RewriteTwiceSaid : Prop := rewriteTwiceRow.holds Tryd.pinned (OpenSpec.ofChange rewriteTwiceSpec)

/-- ITS FALSE NEIGHBOUR: 'it returns false'. Refute it at one input. -/
def rewriteTwiceWrong : ChangeSpec := { name := "rewriteTwice", fn := fun _ => fun
  | [d1, d2, d3] => { results := [.lit (.bool false)], args := [d1, d2, d3] }
  | _ => none }
def RewriteTwiceWrongFalsely : Prop := rewriteTwiceRow.holds Tryd.pinned (OpenSpec.ofChange rewriteTwiceWrong)

/-- 'wittinglaw08.RewriteClosed': WHATEVER THE INPUT: true; the input reads as it did. -/
def rewriteClosedSpec : ChangeSpec := { name := "rewriteClosed", fn := fun _ => fun
  | [d] => { results := [.lit (.bool true)], args := [d] }
  | _ => none }
def rewriteClosedRow : OpenClaim := { program := "ytkcedppepepgfaadoor", sum := "a1a5544daffa822088c758db1ae36e12c75c21ebd4b998471c52d3f33d7ecb66", func := "witting/wittinglaw08.RewriteClosed", spec := "rewriteClosed", unfollowed := true, recurses := true, named := ["witting/rewrite.operands", "witting/rewrite.duals"], plainKeys := false, apart := false, laid := [("witting/rewrite.operands", laid_witting_rewrite_operands), ("witting/rewrite.duals", laid_witting_rewrite_duals)] }
def RewriteClosedSaid : Prop := rewriteClosedRow.holds Tryd.pinned (OpenSpec.ofChange rewriteClosedSpec)

/-- ITS FALSE NEIGHBOUR: 'it returns false'. Refute it at one input. -/
def rewriteClosedWrong : ChangeSpec := { name := "rewriteClosed", fn := fun _ => fun
  | [d] => { results := [.lit (.bool false)], args := [d] }
  | _ => none }
def RewriteClosedWrongFalsely : Prop := rewriteClosedRow.holds Tryd.pinned (OpenSpec.ofChange rewriteClosedWrong)

/- THE SECOND FORM. 'bulk': how many values and letters a reading holds, each counted each time it is reached (what is shared counts as often as it is met; a slice's spare places count too). A statement '..UptoSaid' is the law's where the arguments, and the package variables that the reading takes, are together of bulk at most 1048576: NARROWER than '..Said'. Prove '..Said' where nothing that the law and all that it calls make is longer than what came in: it says more and counts as full. Else prove '..UptoSaid'. A law counts once. -/
mutual
def uptoBulk {H : Type} : DataW H → Nat
  | .lit (.string bytes) => bytes.length + 1
  | .lit _ => 1
  | .nil => 1
  | .ptr d => uptoBulk d + 1
  | .slice elems spare => uptoBulkAll elems + uptoBulkAll spare + 1
  | .agg parts => uptoBulkAll parts + 1
  | .iface _ d => uptoBulk d + 1
  | .map entries => uptoBulkEntries entries + 1
  | .held _ => 1
def uptoBulkAll {H : Type} : List (DataW H) → Nat
  | [] => 0
  | d :: r => uptoBulk d + uptoBulkAll r
def uptoBulkEntries {H : Type} : List (Lit × DataW H) → Nat
  | [] => 0
  | x :: r => uptoBulkEntry x + uptoBulkEntries r
def uptoBulkEntry {H : Type} : Lit × DataW H → Nat
  | (.string bytes, d) => bytes.length + uptoBulk d + 1
  | (_, d) => uptoBulk d + 1
 end
def uptoSmall : (H : Type) → List (DataW H) → Bool := fun _ ds => decide (uptoBulkAll ds ≤ 1048576)
def OpenSpec.upto (s : _root_.Go.ChangeSpec) : _root_.Go.OpenSpec := { _root_.Go.OpenSpec.ofChange s with cond := some uptoSmall }

/-- 'wittinglaw08.RewriteSimplify', WHERE WHAT IT READS IS OF BULK AT MOST 1048576: true; the input reads as it did. -/
def rewriteSimplifyUptoRow : OpenClaim := { program := "ytkcedppepepgfaadoor", sum := "a1a5544daffa822088c758db1ae36e12c75c21ebd4b998471c52d3f33d7ecb66", func := "witting/wittinglaw08.RewriteSimplify", spec := "rewriteSimplify", unfollowed := true, recurses := true, named := ["witting/rewrite.operands", "witting/rewrite.duals"], plainKeys := false, apart := false, laid := [("witting/rewrite.operands", laid_witting_rewrite_operands), ("witting/rewrite.duals", laid_witting_rewrite_duals)], narrowed := true }
def RewriteSimplifyUptoSaid : Prop := rewriteSimplifyUptoRow.holds Tryd.pinned (OpenSpec.upto rewriteSimplifySpec)

/-- 'wittinglaw08.RewriteSubst', WHERE WHAT IT READS IS OF BULK AT MOST 1048576: true; the input reads as it did. -/
def rewriteSubstUptoRow : OpenClaim := { program := "ytkcedppepepgfaadoor", sum := "a1a5544daffa822088c758db1ae36e12c75c21ebd4b998471c52d3f33d7ecb66", func := "witting/wittinglaw08.RewriteSubst", spec := "rewriteSubst", unfollowed := true, recurses := true, named := ["witting/rewrite.operands", "witting/rewrite.duals"], plainKeys := false, apart := false, laid := [("witting/rewrite.operands", laid_witting_rewrite_operands), ("witting/rewrite.duals", laid_witting_rewrite_duals)], narrowed := true }
def RewriteSubstUptoSaid : Prop := rewriteSubstUptoRow.holds Tryd.pinned (OpenSpec.upto rewriteSubstSpec)

/-- 'wittinglaw08.RewriteLists', WHERE WHAT IT READS IS OF BULK AT MOST 1048576: true; the input reads as it did. -/
def rewriteListsUptoRow : OpenClaim := { program := "ytkcedppepepgfaadoor", sum := "a1a5544daffa822088c758db1ae36e12c75c21ebd4b998471c52d3f33d7ecb66", func := "witting/wittinglaw08.RewriteLists", spec := "rewriteLists", unfollowed := true, recurses := true, named := ["witting/rewrite.operands", "witting/rewrite.duals"], plainKeys := false, apart := false, laid := [("witting/rewrite.operands", laid_witting_rewrite_operands), ("witting/rewrite.duals", laid_witting_rewrite_duals)], narrowed := true }
def RewriteListsUptoSaid : Prop := rewriteListsUptoRow.holds Tryd.pinned (OpenSpec.upto rewriteListsSpec)

/-- 'wittinglaw08.RewriteMeans', WHERE WHAT IT READS IS OF BULK AT MOST 1048576: true; the input reads as it did. -/
def rewriteMeansUptoRow : OpenClaim := { program := "ytkcedppepepgfaadoor", sum := "a1a5544daffa822088c758db1ae36e12c75c21ebd4b998471c52d3f33d7ecb66", func := "witting/wittinglaw08.RewriteMeans", spec := "rewriteMeans", unfollowed := true, recurses := true, named := ["witting/rewrite.operands", "witting/rewrite.duals"], plainKeys := false, apart := false, laid := [("witting/rewrite.operands", laid_witting_rewrite_operands), ("witting/rewrite.duals", laid_witting_rewrite_duals)], narrowed := true }
def RewriteMeansUptoSaid : Prop := rewriteMeansUptoRow.holds Tryd.pinned (OpenSpec.upto rewriteMeansSpec)

/-- 'wittinglaw08.RewriteForms', WHERE WHAT IT READS IS OF BULK AT MOST 1048576: true; the input reads as it did. -/
def rewriteFormsUptoRow : OpenClaim := { program := "ytkcedppepepgfaadoor", sum := "a1a5544daffa822088c758db1ae36e12c75c21ebd4b998471c52d3f33d7ecb66", func := "witting/wittinglaw08.RewriteForms", spec := "rewriteForms", unfollowed := true, recurses := true, named := ["witting/rewrite.operands", "witting/rewrite.duals"], plainKeys := false, apart := false, laid := [("witting/rewrite.operands", laid_witting_rewrite_operands), ("witting/rewrite.duals", laid_witting_rewrite_duals)], narrowed := true }
def RewriteFormsUptoSaid : Prop := rewriteFormsUptoRow.holds Tryd.pinned (OpenSpec.upto rewriteFormsSpec)

/-- 'wittinglaw08.RewriteTwice', WHERE WHAT IT READS IS OF BULK AT MOST 1048576: true; the input reads as it did. -/
def rewriteTwiceUptoRow : OpenClaim := { program := "ytkcedppepepgfaadoor", sum := "a1a5544daffa822088c758db1ae36e12c75c21ebd4b998471c52d3f33d7ecb66", func := "witting/wittinglaw08.RewriteTwice", spec := "rewriteTwice", unfollowed := true, recurses := true, named := ["witting/rewrite.operands", "witting/rewrite.duals"], plainKeys := false, apart := false, laid := [("witting/rewrite.operands", laid_witting_rewrite_operands), ("witting/rewrite.duals", laid_witting_rewrite_duals)], narrowed := true }
def RewriteTwiceUptoSaid : Prop := rewriteTwiceUptoRow.holds Tryd.pinned (OpenSpec.upto rewriteTwiceSpec)

/-- 'wittinglaw08.RewriteClosed', WHERE WHAT IT READS IS OF BULK AT MOST 1048576: true; the input reads as it did. -/
def rewriteClosedUptoRow : OpenClaim := { program := "ytkcedppepepgfaadoor", sum := "a1a5544daffa822088c758db1ae36e12c75c21ebd4b998471c52d3f33d7ecb66", func := "witting/wittinglaw08.RewriteClosed", spec := "rewriteClosed", unfollowed := true, recurses := true, named := ["witting/rewrite.operands", "witting/rewrite.duals"], plainKeys := false, apart := false, laid := [("witting/rewrite.operands", laid_witting_rewrite_operands), ("witting/rewrite.duals", laid_witting_rewrite_duals)], narrowed := true }
def RewriteClosedUptoSaid : Prop := rewriteClosedUptoRow.holds Tryd.pinned (OpenSpec.upto rewriteClosedSpec)

end Rows
end Go.Proofs.YtkcedppepepgfaaDoor
