/-
  NARROWER THAN 'FOR EVERY INPUT', by the rows' own cells (each row's printed sentence says how): CheckerDuals: laid · CheckerFixpoint: laid · CheckerPaths: laid · CheckerLocal: laid · CheckerAxioms: laid · CheckerTables: laid.
  DERIVED. THE GIVEN ROWS OF THIS SEAT. 6 by the template 'for every input the law returns true; each argument reads behind the call as it read before'; 0 by the template 'total and deterministic' (their statements: YtjpmhbnikoggaaaDoorTotals.lean).
  GIVEN WITH THE SEED: the statements are not yours to turn. If you find one false, say at which input.
  Laid BY PROGRAM, IN A SANDBOX (cutbox-rows.mjs): the forced cells as the released guide's own fill.sh prints them over the translation f0cf6e3cec99b4d8… (all of the seat's roots in one cut). By AI agents, Wed Nov 11 2026. No macro, syntax, notation, axiom, sorry.
-/
import Derived.Test.YtjpmhbnikoggaaaDoorChecked
import GoSem.Claim
import GoSem.ClaimJoined
import GoSem.ClaimMapViews
import Derived.JoinedTies
import Derived.KernelRfl
namespace Go.Proofs.YtjpmhbnikoggaaaDoor
/- THE CELL 'sum', in the pinned program and in every row, IS THE sha256 OF THE DUMP (.gsa) THAT YtjpmhbnikoggaaaDoorProg.lean LOADS. Nothing in Lean hashes anything: it is a label: what it is worth is what the hold of that sum in a sandbox is worth. -/
noncomputable def Tryd.pinned : Pinned := { name := "ytjpmhbnikoggaaadoor", sum := "f0cf6e3cec99b4d897cae2b99633b20c22d95fac8dc02e77c27e3c2bfd998f52", checked := Tryd.checked }
namespace Rows
def none {H : Type} : Left H := { results := [], args := [] }

/- WHAT THE LISTED PACKAGE-LEVEL VARIABLES READ AS WHEN THE CALL BEGINS. Each datum BY PROGRAM (the guide's laid-datum.mjs) off the statement by which the dump's own 'gosem.cut.vars' lays the variable. In a bare row this is a premise. The card (YtjpmhbnikoggaaaDoorCards.lean) ties it to the program's text. -/
def laid_math_bits_deBruijn64tab {H : Type} : DataW H := .agg [.lit (.int .u8 0), .lit (.int .u8 1), .lit (.int .u8 56), .lit (.int .u8 2), .lit (.int .u8 57), .lit (.int .u8 49), .lit (.int .u8 28), .lit (.int .u8 3), .lit (.int .u8 61), .lit (.int .u8 58), .lit (.int .u8 42), .lit (.int .u8 50), .lit (.int .u8 38), .lit (.int .u8 29), .lit (.int .u8 17), .lit (.int .u8 4), .lit (.int .u8 62), .lit (.int .u8 47), .lit (.int .u8 59), .lit (.int .u8 36), .lit (.int .u8 45), .lit (.int .u8 43), .lit (.int .u8 51), .lit (.int .u8 22), .lit (.int .u8 53), .lit (.int .u8 39), .lit (.int .u8 33), .lit (.int .u8 30), .lit (.int .u8 24), .lit (.int .u8 18), .lit (.int .u8 12), .lit (.int .u8 5), .lit (.int .u8 63), .lit (.int .u8 55), .lit (.int .u8 48), .lit (.int .u8 27), .lit (.int .u8 60), .lit (.int .u8 41), .lit (.int .u8 37), .lit (.int .u8 16), .lit (.int .u8 46), .lit (.int .u8 35), .lit (.int .u8 44), .lit (.int .u8 21), .lit (.int .u8 52), .lit (.int .u8 32), .lit (.int .u8 23), .lit (.int .u8 11), .lit (.int .u8 54), .lit (.int .u8 26), .lit (.int .u8 40), .lit (.int .u8 15), .lit (.int .u8 34), .lit (.int .u8 20), .lit (.int .u8 31), .lit (.int .u8 10), .lit (.int .u8 25), .lit (.int .u8 14), .lit (.int .u8 19), .lit (.int .u8 9), .lit (.int .u8 13), .lit (.int .u8 8), .lit (.int .u8 7), .lit (.int .u8 6)]

/-- 'wittinglaw17.CheckerDuals': WHATEVER THE INPUT: true; the input reads as it did. -/
def checkerDualsSpec : ChangeSpec := { name := "checkerDuals", fn := fun _ => fun
  | [d1, d2, d3] => { results := [.lit (.bool true)], args := [d1, d2, d3] }
  | _ => none }
def checkerDualsRow : OpenClaim := { program := "ytjpmhbnikoggaaadoor", sum := "f0cf6e3cec99b4d897cae2b99633b20c22d95fac8dc02e77c27e3c2bfd998f52", func := "witting/wittinglaw17.CheckerDuals", spec := "checkerDuals", unfollowed := true, recurses := true, named := ["math/bits.deBruijn64tab"], plainKeys := false, apart := false, laid := [("math/bits.deBruijn64tab", laid_math_bits_deBruijn64tab)] }
def CheckerDualsSaid : Prop := checkerDualsRow.holds Tryd.pinned (OpenSpec.ofChange checkerDualsSpec)

/-- ITS FALSE NEIGHBOUR: 'it returns false'. Refute it at one input. -/
def checkerDualsWrong : ChangeSpec := { name := "checkerDuals", fn := fun _ => fun
  | [d1, d2, d3] => { results := [.lit (.bool false)], args := [d1, d2, d3] }
  | _ => none }
def CheckerDualsWrongFalsely : Prop := checkerDualsRow.holds Tryd.pinned (OpenSpec.ofChange checkerDualsWrong)

/-- 'wittinglaw17.CheckerFixpoint': WHATEVER THE INPUT: true; the input reads as it did. -/
def checkerFixpointSpec : ChangeSpec := { name := "checkerFixpoint", fn := fun _ => fun
  | [d1, d2, d3] => { results := [.lit (.bool true)], args := [d1, d2, d3] }
  | _ => none }
def checkerFixpointRow : OpenClaim := { program := "ytjpmhbnikoggaaadoor", sum := "f0cf6e3cec99b4d897cae2b99633b20c22d95fac8dc02e77c27e3c2bfd998f52", func := "witting/wittinglaw17.CheckerFixpoint", spec := "checkerFixpoint", unfollowed := true, recurses := true, named := ["math/bits.deBruijn64tab"], plainKeys := false, apart := false, laid := [("math/bits.deBruijn64tab", laid_math_bits_deBruijn64tab)] }
def CheckerFixpointSaid : Prop := checkerFixpointRow.holds Tryd.pinned (OpenSpec.ofChange checkerFixpointSpec)

/-- ITS FALSE NEIGHBOUR: 'it returns false'. Refute it at one input. -/
def checkerFixpointWrong : ChangeSpec := { name := "checkerFixpoint", fn := fun _ => fun
  | [d1, d2, d3] => { results := [.lit (.bool false)], args := [d1, d2, d3] }
  | _ => none }
def CheckerFixpointWrongFalsely : Prop := checkerFixpointRow.holds Tryd.pinned (OpenSpec.ofChange checkerFixpointWrong)

/-- 'wittinglaw17.CheckerPaths': WHATEVER THE INPUT: true; the input reads as it did. -/
def checkerPathsSpec : ChangeSpec := { name := "checkerPaths", fn := fun _ => fun
  | [d1, d2, d3] => { results := [.lit (.bool true)], args := [d1, d2, d3] }
  | _ => none }
def checkerPathsRow : OpenClaim := { program := "ytjpmhbnikoggaaadoor", sum := "f0cf6e3cec99b4d897cae2b99633b20c22d95fac8dc02e77c27e3c2bfd998f52", func := "witting/wittinglaw17.CheckerPaths", spec := "checkerPaths", unfollowed := true, recurses := true, named := ["math/bits.deBruijn64tab"], plainKeys := false, apart := false, laid := [("math/bits.deBruijn64tab", laid_math_bits_deBruijn64tab)] }
def CheckerPathsSaid : Prop := checkerPathsRow.holds Tryd.pinned (OpenSpec.ofChange checkerPathsSpec)

/-- ITS FALSE NEIGHBOUR: 'it returns false'. Refute it at one input. -/
def checkerPathsWrong : ChangeSpec := { name := "checkerPaths", fn := fun _ => fun
  | [d1, d2, d3] => { results := [.lit (.bool false)], args := [d1, d2, d3] }
  | _ => none }
def CheckerPathsWrongFalsely : Prop := checkerPathsRow.holds Tryd.pinned (OpenSpec.ofChange checkerPathsWrong)

/-- 'wittinglaw17.CheckerLocal': WHATEVER THE INPUT: true; the input reads as it did. -/
def checkerLocalSpec : ChangeSpec := { name := "checkerLocal", fn := fun _ => fun
  | [d1, d2, d3] => { results := [.lit (.bool true)], args := [d1, d2, d3] }
  | _ => none }
def checkerLocalRow : OpenClaim := { program := "ytjpmhbnikoggaaadoor", sum := "f0cf6e3cec99b4d897cae2b99633b20c22d95fac8dc02e77c27e3c2bfd998f52", func := "witting/wittinglaw17.CheckerLocal", spec := "checkerLocal", unfollowed := true, recurses := true, named := ["math/bits.deBruijn64tab"], plainKeys := false, apart := false, laid := [("math/bits.deBruijn64tab", laid_math_bits_deBruijn64tab)] }
def CheckerLocalSaid : Prop := checkerLocalRow.holds Tryd.pinned (OpenSpec.ofChange checkerLocalSpec)

/-- ITS FALSE NEIGHBOUR: 'it returns false'. Refute it at one input. -/
def checkerLocalWrong : ChangeSpec := { name := "checkerLocal", fn := fun _ => fun
  | [d1, d2, d3] => { results := [.lit (.bool false)], args := [d1, d2, d3] }
  | _ => none }
def CheckerLocalWrongFalsely : Prop := checkerLocalRow.holds Tryd.pinned (OpenSpec.ofChange checkerLocalWrong)

/-- 'wittinglaw17.CheckerAxioms': WHATEVER THE INPUT: true; the input reads as it did. -/
def checkerAxiomsSpec : ChangeSpec := { name := "checkerAxioms", fn := fun _ => fun
  | [d1, d2, d3] => { results := [.lit (.bool true)], args := [d1, d2, d3] }
  | _ => none }
def checkerAxiomsRow : OpenClaim := { program := "ytjpmhbnikoggaaadoor", sum := "f0cf6e3cec99b4d897cae2b99633b20c22d95fac8dc02e77c27e3c2bfd998f52", func := "witting/wittinglaw17.CheckerAxioms", spec := "checkerAxioms", unfollowed := true, recurses := true, named := ["math/bits.deBruijn64tab"], plainKeys := false, apart := false, laid := [("math/bits.deBruijn64tab", laid_math_bits_deBruijn64tab)] }
def CheckerAxiomsSaid : Prop := checkerAxiomsRow.holds Tryd.pinned (OpenSpec.ofChange checkerAxiomsSpec)

/-- ITS FALSE NEIGHBOUR: 'it returns false'. Refute it at one input. -/
def checkerAxiomsWrong : ChangeSpec := { name := "checkerAxioms", fn := fun _ => fun
  | [d1, d2, d3] => { results := [.lit (.bool false)], args := [d1, d2, d3] }
  | _ => none }
def CheckerAxiomsWrongFalsely : Prop := checkerAxiomsRow.holds Tryd.pinned (OpenSpec.ofChange checkerAxiomsWrong)

/-- 'wittinglaw17.CheckerTables': WHATEVER THE INPUT: true; the input reads as it did. -/
def checkerTablesSpec : ChangeSpec := { name := "checkerTables", fn := fun _ => fun
  | [d1, d2, d3] => { results := [.lit (.bool true)], args := [d1, d2, d3] }
  | _ => none }
def checkerTablesRow : OpenClaim := { program := "ytjpmhbnikoggaaadoor", sum := "f0cf6e3cec99b4d897cae2b99633b20c22d95fac8dc02e77c27e3c2bfd998f52", func := "witting/wittinglaw17.CheckerTables", spec := "checkerTables", unfollowed := true, recurses := true, named := ["math/bits.deBruijn64tab"], plainKeys := false, apart := false, laid := [("math/bits.deBruijn64tab", laid_math_bits_deBruijn64tab)] }
def CheckerTablesSaid : Prop := checkerTablesRow.holds Tryd.pinned (OpenSpec.ofChange checkerTablesSpec)

/-- ITS FALSE NEIGHBOUR: 'it returns false'. Refute it at one input. -/
def checkerTablesWrong : ChangeSpec := { name := "checkerTables", fn := fun _ => fun
  | [d1, d2, d3] => { results := [.lit (.bool false)], args := [d1, d2, d3] }
  | _ => none }
def CheckerTablesWrongFalsely : Prop := checkerTablesRow.holds Tryd.pinned (OpenSpec.ofChange checkerTablesWrong)

/- THE SECOND FORM. 'bulk': how many values and letters a reading holds, each counted each time it is reached (what is shared counts as often as it is met; a slice's spare places count too). A statement '..UptoSaid' is the law's where the arguments, and the package variables that the reading takes, are together of bulk at most 1048576: NARROWER than '..Said'. Prove '..Said' where nothing that the law and all that it calls make is longer than what came in: it says more and counts as full. Else prove '..UptoSaid'. A law counts once. -/
mutual
def uptoBulk {H : Type} : DataW H → Nat
  | .lit (.string bytes) => bytes.length + 1
  | .lit _ => 1
  | .nil => 1
  | .ptr d => uptoBulk d + 1
  | .slice elems spare => uptoBulkAll elems + uptoBulkAll spare + 1
  | .agg parts => uptoBulkAll parts + 1
  | .iface _ d => uptoBulk d + 1
  | .map entries => uptoBulkEntries entries + 1
  | .held _ => 1
def uptoBulkAll {H : Type} : List (DataW H) → Nat
  | [] => 0
  | d :: r => uptoBulk d + uptoBulkAll r
def uptoBulkEntries {H : Type} : List (Lit × DataW H) → Nat
  | [] => 0
  | x :: r => uptoBulkEntry x + uptoBulkEntries r
def uptoBulkEntry {H : Type} : Lit × DataW H → Nat
  | (.string bytes, d) => bytes.length + uptoBulk d + 1
  | (_, d) => uptoBulk d + 1
 end
def uptoSmall : (H : Type) → List (DataW H) → Bool := fun _ ds => decide (uptoBulkAll ds ≤ 1048576)
def OpenSpec.upto (s : _root_.Go.ChangeSpec) : _root_.Go.OpenSpec := { _root_.Go.OpenSpec.ofChange s with cond := some uptoSmall }

/-- 'wittinglaw17.CheckerDuals', WHERE WHAT IT READS IS OF BULK AT MOST 1048576: true; the input reads as it did. -/
def checkerDualsUptoRow : OpenClaim := { program := "ytjpmhbnikoggaaadoor", sum := "f0cf6e3cec99b4d897cae2b99633b20c22d95fac8dc02e77c27e3c2bfd998f52", func := "witting/wittinglaw17.CheckerDuals", spec := "checkerDuals", unfollowed := true, recurses := true, named := ["math/bits.deBruijn64tab"], plainKeys := false, apart := false, laid := [("math/bits.deBruijn64tab", laid_math_bits_deBruijn64tab)], narrowed := true }
def CheckerDualsUptoSaid : Prop := checkerDualsUptoRow.holds Tryd.pinned (OpenSpec.upto checkerDualsSpec)

/-- 'wittinglaw17.CheckerFixpoint', WHERE WHAT IT READS IS OF BULK AT MOST 1048576: true; the input reads as it did. -/
def checkerFixpointUptoRow : OpenClaim := { program := "ytjpmhbnikoggaaadoor", sum := "f0cf6e3cec99b4d897cae2b99633b20c22d95fac8dc02e77c27e3c2bfd998f52", func := "witting/wittinglaw17.CheckerFixpoint", spec := "checkerFixpoint", unfollowed := true, recurses := true, named := ["math/bits.deBruijn64tab"], plainKeys := false, apart := false, laid := [("math/bits.deBruijn64tab", laid_math_bits_deBruijn64tab)], narrowed := true }
def CheckerFixpointUptoSaid : Prop := checkerFixpointUptoRow.holds Tryd.pinned (OpenSpec.upto checkerFixpointSpec)

/-- 'wittinglaw17.CheckerPaths', WHERE WHAT IT READS IS OF BULK AT MOST 1048576: true; the input reads as it did. -/
def checkerPathsUptoRow : OpenClaim := { program := "ytjpmhbnikoggaaadoor", sum := "f0cf6e3cec99b4d897cae2b99633b20c22d95fac8dc02e77c27e3c2bfd998f52", func := "witting/wittinglaw17.CheckerPaths", spec := "checkerPaths", unfollowed := true, recurses := true, named := ["math/bits.deBruijn64tab"], plainKeys := false, apart := false, laid := [("math/bits.deBruijn64tab", laid_math_bits_deBruijn64tab)], narrowed := true }
def CheckerPathsUptoSaid : Prop := checkerPathsUptoRow.holds Tryd.pinned (OpenSpec.upto checkerPathsSpec)

/-- 'wittinglaw17.CheckerLocal', WHERE WHAT IT READS IS OF BULK AT MOST 1048576: true; the input reads as it did. -/
def checkerLocalUptoRow : OpenClaim := { program := "ytjpmhbnikoggaaadoor", sum := "f0cf6e3cec99b4d897cae2b99633b20c22d95fac8dc02e77c27e3c2bfd998f52", func := "witting/wittinglaw17.CheckerLocal", spec := "checkerLocal", unfollowed := true, recurses := true, named := ["math/bits.deBruijn64tab"], plainKeys := false, apart := false, laid := [("math/bits.deBruijn64tab", laid_math_bits_deBruijn64tab)], narrowed := true }
def CheckerLocalUptoSaid : Prop := checkerLocalUptoRow.holds Tryd.pinned (OpenSpec.upto checkerLocalSpec)

/-- 'wittinglaw17.CheckerAxioms', WHERE WHAT IT READS IS OF BULK AT MOST 1048576: true; the input reads as it did. -/
def checkerAxiomsUptoRow : OpenClaim := { program := "ytjpmhbnikoggaaadoor", sum := "f0cf6e3cec99b4d897cae2b99633b20c22d95fac8dc02e77c27e3c2bfd998f52", func := "witting/wittinglaw17.CheckerAxioms", spec := "checkerAxioms", unfollowed := true, recurses := true, named := ["math/bits.deBruijn64tab"], plainKeys := false, apart := false, laid := [("math/bits.deBruijn64tab", laid_math_bits_deBruijn64tab)], narrowed := true }
def CheckerAxiomsUptoSaid : Prop := checkerAxiomsUptoRow.holds Tryd.pinned (OpenSpec.upto checkerAxiomsSpec)

/-- 'wittinglaw17.CheckerTables', WHERE WHAT IT READS IS OF BULK AT MOST 1048576: true; the input reads as it did. -/
def checkerTablesUptoRow : OpenClaim := { program := "ytjpmhbnikoggaaadoor", sum := "f0cf6e3cec99b4d897cae2b99633b20c22d95fac8dc02e77c27e3c2bfd998f52", func := "witting/wittinglaw17.CheckerTables", spec := "checkerTables", unfollowed := true, recurses := true, named := ["math/bits.deBruijn64tab"], plainKeys := false, apart := false, laid := [("math/bits.deBruijn64tab", laid_math_bits_deBruijn64tab)], narrowed := true }
def CheckerTablesUptoSaid : Prop := checkerTablesUptoRow.holds Tryd.pinned (OpenSpec.upto checkerTablesSpec)

end Rows
end Go.Proofs.YtjpmhbnikoggaaaDoor
