/-
  NARROWER THAN 'FOR EVERY INPUT', by the rows' own cells (each row's printed sentence says how): PartitionOf: laid · PartitionBack: laid · SignatureChecks: laid · SignatureFinds: laid · SignatureGroups: laid · SignatureParses: laid · SignatureBack: laid · SignatureApart: laid · SignatureOrder: laid.
  DERIVED. THE GIVEN ROWS OF THIS SEAT. 9 by the template 'for every input the law returns true; each argument reads behind the call as it read before'; 0 by the template 'total and deterministic' (their statements: YtichhbnpdhfimaaDoorTotals.lean).
  GIVEN WITH THE SEED: the statements are not yours to turn. If you find one false, say at which input.
  Laid BY PROGRAM, IN A SANDBOX (cutbox-rows.mjs): the forced cells as the released guide's own fill.sh prints them over the translation bc490ca9a9082039… (all of the seat's roots in one cut). By AI agents, Wed Nov 11 2026. No macro, syntax, notation, axiom, sorry.
-/
import Derived.Test.YtichhbnpdhfimaaDoorChecked
import GoSem.PinnedTables
import GoSem.Claim
import GoSem.ClaimJoined
import GoSem.ClaimMapViews
import Derived.JoinedTies
import Derived.KernelRfl
namespace Go.Proofs.YtichhbnpdhfimaaDoor
/- THE CELL 'sum', in the pinned program and in every row, IS THE sha256 OF THE DUMP (.gsa) THAT YtichhbnpdhfimaaDoorProg.lean LOADS. Nothing in Lean hashes anything: it is a label: what it is worth is what the hold of that sum in a sandbox is worth. -/
noncomputable def Tryd.pinned : Pinned := { name := "ytichhbnpdhfimaadoor", sum := "bc490ca9a90820393638ed0f56db8babdc9cc917478bb87372e4f98ec962f50a", checked := Tryd.checked }
namespace Rows
def none {H : Type} : Left H := { results := [], args := [] }

/- WHAT THE LISTED PACKAGE-LEVEL VARIABLES READ AS WHEN THE CALL BEGINS. Each datum BY PROGRAM (the guide's laid-datum.mjs) off the statement by which the dump's own 'gosem.cut.vars' lays the variable. In a bare row this is a premise. The card (YtichhbnpdhfimaaDoorCards.lean) ties it to the program's text. -/
def laid_math_bits_deBruijn64tab {H : Type} : DataW H := .agg [.lit (.int .u8 0), .lit (.int .u8 1), .lit (.int .u8 56), .lit (.int .u8 2), .lit (.int .u8 57), .lit (.int .u8 49), .lit (.int .u8 28), .lit (.int .u8 3), .lit (.int .u8 61), .lit (.int .u8 58), .lit (.int .u8 42), .lit (.int .u8 50), .lit (.int .u8 38), .lit (.int .u8 29), .lit (.int .u8 17), .lit (.int .u8 4), .lit (.int .u8 62), .lit (.int .u8 47), .lit (.int .u8 59), .lit (.int .u8 36), .lit (.int .u8 45), .lit (.int .u8 43), .lit (.int .u8 51), .lit (.int .u8 22), .lit (.int .u8 53), .lit (.int .u8 39), .lit (.int .u8 33), .lit (.int .u8 30), .lit (.int .u8 24), .lit (.int .u8 18), .lit (.int .u8 12), .lit (.int .u8 5), .lit (.int .u8 63), .lit (.int .u8 55), .lit (.int .u8 48), .lit (.int .u8 27), .lit (.int .u8 60), .lit (.int .u8 41), .lit (.int .u8 37), .lit (.int .u8 16), .lit (.int .u8 46), .lit (.int .u8 35), .lit (.int .u8 44), .lit (.int .u8 21), .lit (.int .u8 52), .lit (.int .u8 32), .lit (.int .u8 23), .lit (.int .u8 11), .lit (.int .u8 54), .lit (.int .u8 26), .lit (.int .u8 40), .lit (.int .u8 15), .lit (.int .u8 34), .lit (.int .u8 20), .lit (.int .u8 31), .lit (.int .u8 10), .lit (.int .u8 25), .lit (.int .u8 14), .lit (.int .u8 19), .lit (.int .u8 9), .lit (.int .u8 13), .lit (.int .u8 8), .lit (.int .u8 7), .lit (.int .u8 6)]
def laid_witting_partition_finest {H : Type} : DataW H := .slice [.lit (.int .i64 0), .lit (.int .i64 1), .lit (.int .i64 2), .lit (.int .i64 3), .lit (.int .i64 4), .lit (.int .i64 5), .lit (.int .i64 6), .lit (.int .i64 7), .lit (.int .i64 8), .lit (.int .i64 9), .lit (.int .i64 10), .lit (.int .i64 11), .lit (.int .i64 12), .lit (.int .i64 13), .lit (.int .i64 14), .lit (.int .i64 15), .lit (.int .i64 16), .lit (.int .i64 17), .lit (.int .i64 18), .lit (.int .i64 19), .lit (.int .i64 20), .lit (.int .i64 21), .lit (.int .i64 22), .lit (.int .i64 23), .lit (.int .i64 24), .lit (.int .i64 25), .lit (.int .i64 26), .lit (.int .i64 27), .lit (.int .i64 28), .lit (.int .i64 29), .lit (.int .i64 30), .lit (.int .i64 31), .lit (.int .i64 32), .lit (.int .i64 33), .lit (.int .i64 34), .lit (.int .i64 35), .lit (.int .i64 36), .lit (.int .i64 37), .lit (.int .i64 38), .lit (.int .i64 39), .lit (.int .i64 40), .lit (.int .i64 41), .lit (.int .i64 42), .lit (.int .i64 43), .lit (.int .i64 44), .lit (.int .i64 45), .lit (.int .i64 46), .lit (.int .i64 47), .lit (.int .i64 48), .lit (.int .i64 49), .lit (.int .i64 50), .lit (.int .i64 51), .lit (.int .i64 52), .lit (.int .i64 53), .lit (.int .i64 54), .lit (.int .i64 55), .lit (.int .i64 56), .lit (.int .i64 57), .lit (.int .i64 58), .lit (.int .i64 59), .lit (.int .i64 60), .lit (.int .i64 61), .lit (.int .i64 62), .lit (.int .i64 63)] []
def laid_unicode_utf8_acceptRanges {H : Type} : DataW H := .agg [.agg [.lit (.int .u8 128), .lit (.int .u8 191)], .agg [.lit (.int .u8 160), .lit (.int .u8 191)], .agg [.lit (.int .u8 128), .lit (.int .u8 159)], .agg [.lit (.int .u8 144), .lit (.int .u8 191)], .agg [.lit (.int .u8 128), .lit (.int .u8 143)], .agg [.lit (.int .u8 0), .lit (.int .u8 0)], .agg [.lit (.int .u8 0), .lit (.int .u8 0)], .agg [.lit (.int .u8 0), .lit (.int .u8 0)], .agg [.lit (.int .u8 0), .lit (.int .u8 0)], .agg [.lit (.int .u8 0), .lit (.int .u8 0)], .agg [.lit (.int .u8 0), .lit (.int .u8 0)], .agg [.lit (.int .u8 0), .lit (.int .u8 0)], .agg [.lit (.int .u8 0), .lit (.int .u8 0)], .agg [.lit (.int .u8 0), .lit (.int .u8 0)], .agg [.lit (.int .u8 0), .lit (.int .u8 0)], .agg [.lit (.int .u8 0), .lit (.int .u8 0)]]
def laid_witting_signature_reserved {H : Type} : DataW H := .slice [.lit (.string [116, 114, 117, 101]), .lit (.string [102, 97, 108, 115, 101]), .lit (.string [110, 101, 120, 116]), .lit (.string [112, 114, 101, 118]), .lit (.string [117, 110, 116, 105, 108]), .lit (.string [115, 105, 110, 99, 101]), .lit (.string [100, 111])] []
def laid_witting_signature_agentNames {H : Type} : DataW H := .slice [.lit (.string [97]), .lit (.string [98]), .lit (.string [99]), .lit (.string [100])] []
def laid_witting_signature_factNames {H : Type} : DataW H := .slice [.lit (.string [112]), .lit (.string [113]), .lit (.string [114]), .lit (.string [115]), .lit (.string [116]), .lit (.string [117]), .lit (.string [118]), .lit (.string [119])] []
def laid_witting_signature_actionNames {H : Type} : DataW H := .slice [.lit (.string [97, 99, 116, 48]), .lit (.string [97, 99, 116, 49]), .lit (.string [97, 99, 116, 50]), .lit (.string [97, 99, 116, 51]), .lit (.string [97, 99, 116, 52]), .lit (.string [97, 99, 116, 53]), .lit (.string [97, 99, 116, 54]), .lit (.string [97, 99, 116, 55])] []
/-- One of Go's own tables, pinned by name: the form's constant. -/
def laid_unicode_utf8_first : DataW Unit := Go.Pinned.utf8First

/-- 'wittinglaw03.PartitionOf': WHATEVER THE INPUT: true; the input reads as it did. -/
def partitionOfSpec : ChangeSpec := { name := "partitionOf", fn := fun _ => fun
  | [d1, d2] => { results := [.lit (.bool true)], args := [d1, d2] }
  | _ => none }
def partitionOfRow : OpenClaim := { program := "ytichhbnpdhfimaadoor", sum := "bc490ca9a90820393638ed0f56db8babdc9cc917478bb87372e4f98ec962f50a", func := "witting/wittinglaw03.PartitionOf", spec := "partitionOf", unfollowed := true, recurses := true, named := ["math/bits.deBruijn64tab", "witting/partition.finest"], plainKeys := false, apart := false, laid := [("math/bits.deBruijn64tab", laid_math_bits_deBruijn64tab), ("witting/partition.finest", laid_witting_partition_finest)] }
def PartitionOfSaid : Prop := partitionOfRow.holds Tryd.pinned (OpenSpec.ofChange partitionOfSpec)

/-- ITS FALSE NEIGHBOUR: 'it returns false'. Refute it at one input. -/
def partitionOfWrong : ChangeSpec := { name := "partitionOf", fn := fun _ => fun
  | [d1, d2] => { results := [.lit (.bool false)], args := [d1, d2] }
  | _ => none }
def PartitionOfWrongFalsely : Prop := partitionOfRow.holds Tryd.pinned (OpenSpec.ofChange partitionOfWrong)

/-- 'wittinglaw03.PartitionBack': WHATEVER THE INPUT: true; the input reads as it did. -/
def partitionBackSpec : ChangeSpec := { name := "partitionBack", fn := fun _ => fun
  | [d] => { results := [.lit (.bool true)], args := [d] }
  | _ => none }
def partitionBackRow : OpenClaim := { program := "ytichhbnpdhfimaadoor", sum := "bc490ca9a90820393638ed0f56db8babdc9cc917478bb87372e4f98ec962f50a", func := "witting/wittinglaw03.PartitionBack", spec := "partitionBack", unfollowed := true, recurses := true, named := ["math/bits.deBruijn64tab"], plainKeys := false, apart := false, laid := [("math/bits.deBruijn64tab", laid_math_bits_deBruijn64tab)] }
def PartitionBackSaid : Prop := partitionBackRow.holds Tryd.pinned (OpenSpec.ofChange partitionBackSpec)

/-- ITS FALSE NEIGHBOUR: 'it returns false'. Refute it at one input. -/
def partitionBackWrong : ChangeSpec := { name := "partitionBack", fn := fun _ => fun
  | [d] => { results := [.lit (.bool false)], args := [d] }
  | _ => none }
def PartitionBackWrongFalsely : Prop := partitionBackRow.holds Tryd.pinned (OpenSpec.ofChange partitionBackWrong)

/-- 'wittinglaw04.SignatureChecks': WHATEVER THE INPUT: true; the input reads as it did. -/
def signatureChecksSpec : ChangeSpec := { name := "signatureChecks", fn := fun _ => fun
  | [d1, d2] => { results := [.lit (.bool true)], args := [d1, d2] }
  | _ => none }
def signatureChecksRow : OpenClaim := { program := "ytichhbnpdhfimaadoor", sum := "bc490ca9a90820393638ed0f56db8babdc9cc917478bb87372e4f98ec962f50a", func := "witting/wittinglaw04.SignatureChecks", spec := "signatureChecks", inPlace := ["internal/abi.NoEscape", "internal/bytealg.MakeNoZero", "internal/bytealg.CountString", "internal/bytealg.IndexByteString", "internal/bytealg.IndexString"], named := ["witting/signature.agentNames", "witting/signature.factNames", "witting/signature.actionNames", "witting/signature.reserved", "unicode/utf8.first", "unicode/utf8.acceptRanges", "internal/bytealg.MaxLen"], plainKeys := false, apart := false, laid := [("unicode/utf8.acceptRanges", laid_unicode_utf8_acceptRanges), ("witting/signature.reserved", laid_witting_signature_reserved), ("witting/signature.agentNames", laid_witting_signature_agentNames), ("witting/signature.factNames", laid_witting_signature_factNames), ("witting/signature.actionNames", laid_witting_signature_actionNames), ("unicode/utf8.first", laid_unicode_utf8_first)] }
def SignatureChecksSaid : Prop := signatureChecksRow.holds Tryd.pinned (OpenSpec.ofChange signatureChecksSpec)

/-- ITS FALSE NEIGHBOUR: 'it returns false'. Refute it at one input. -/
def signatureChecksWrong : ChangeSpec := { name := "signatureChecks", fn := fun _ => fun
  | [d1, d2] => { results := [.lit (.bool false)], args := [d1, d2] }
  | _ => none }
def SignatureChecksWrongFalsely : Prop := signatureChecksRow.holds Tryd.pinned (OpenSpec.ofChange signatureChecksWrong)

/-- 'wittinglaw04.SignatureFinds': WHATEVER THE INPUT: true; the input reads as it did. -/
def signatureFindsSpec : ChangeSpec := { name := "signatureFinds", fn := fun _ => fun
  | [d1, d2, d3] => { results := [.lit (.bool true)], args := [d1, d2, d3] }
  | _ => none }
def signatureFindsRow : OpenClaim := { program := "ytichhbnpdhfimaadoor", sum := "bc490ca9a90820393638ed0f56db8babdc9cc917478bb87372e4f98ec962f50a", func := "witting/wittinglaw04.SignatureFinds", spec := "signatureFinds", inPlace := ["internal/abi.NoEscape", "internal/bytealg.MakeNoZero", "internal/bytealg.CountString", "internal/bytealg.IndexByteString", "internal/bytealg.IndexString"], named := ["witting/signature.agentNames", "witting/signature.factNames", "witting/signature.actionNames", "witting/signature.reserved", "unicode/utf8.first", "unicode/utf8.acceptRanges", "internal/bytealg.MaxLen"], plainKeys := false, apart := false, laid := [("unicode/utf8.acceptRanges", laid_unicode_utf8_acceptRanges), ("witting/signature.reserved", laid_witting_signature_reserved), ("witting/signature.agentNames", laid_witting_signature_agentNames), ("witting/signature.factNames", laid_witting_signature_factNames), ("witting/signature.actionNames", laid_witting_signature_actionNames), ("unicode/utf8.first", laid_unicode_utf8_first)] }
def SignatureFindsSaid : Prop := signatureFindsRow.holds Tryd.pinned (OpenSpec.ofChange signatureFindsSpec)

/-- ITS FALSE NEIGHBOUR: 'it returns false'. Refute it at one input. -/
def signatureFindsWrong : ChangeSpec := { name := "signatureFinds", fn := fun _ => fun
  | [d1, d2, d3] => { results := [.lit (.bool false)], args := [d1, d2, d3] }
  | _ => none }
def SignatureFindsWrongFalsely : Prop := signatureFindsRow.holds Tryd.pinned (OpenSpec.ofChange signatureFindsWrong)

/-- 'wittinglaw04.SignatureGroups': WHATEVER THE INPUT: true; the input reads as it did. -/
def signatureGroupsSpec : ChangeSpec := { name := "signatureGroups", fn := fun _ => fun
  | [d1, d2, d3] => { results := [.lit (.bool true)], args := [d1, d2, d3] }
  | _ => none }
def signatureGroupsRow : OpenClaim := { program := "ytichhbnpdhfimaadoor", sum := "bc490ca9a90820393638ed0f56db8babdc9cc917478bb87372e4f98ec962f50a", func := "witting/wittinglaw04.SignatureGroups", spec := "signatureGroups", inPlace := ["internal/abi.NoEscape", "internal/bytealg.MakeNoZero", "internal/bytealg.CountString", "internal/bytealg.IndexByteString", "internal/bytealg.IndexString"], named := ["witting/signature.agentNames", "witting/signature.factNames", "witting/signature.actionNames", "witting/signature.reserved", "unicode/utf8.first", "unicode/utf8.acceptRanges", "internal/bytealg.MaxLen"], plainKeys := false, apart := false, laid := [("unicode/utf8.acceptRanges", laid_unicode_utf8_acceptRanges), ("witting/signature.reserved", laid_witting_signature_reserved), ("witting/signature.agentNames", laid_witting_signature_agentNames), ("witting/signature.factNames", laid_witting_signature_factNames), ("witting/signature.actionNames", laid_witting_signature_actionNames), ("unicode/utf8.first", laid_unicode_utf8_first)] }
def SignatureGroupsSaid : Prop := signatureGroupsRow.holds Tryd.pinned (OpenSpec.ofChange signatureGroupsSpec)

/-- ITS FALSE NEIGHBOUR: 'it returns false'. Refute it at one input. -/
def signatureGroupsWrong : ChangeSpec := { name := "signatureGroups", fn := fun _ => fun
  | [d1, d2, d3] => { results := [.lit (.bool false)], args := [d1, d2, d3] }
  | _ => none }
def SignatureGroupsWrongFalsely : Prop := signatureGroupsRow.holds Tryd.pinned (OpenSpec.ofChange signatureGroupsWrong)

/-- 'wittinglaw04.SignatureParses': WHATEVER THE INPUT: true; the input reads as it did. -/
def signatureParsesSpec : ChangeSpec := { name := "signatureParses", fn := fun _ => fun
  | [d1, d2] => { results := [.lit (.bool true)], args := [d1, d2] }
  | _ => none }
def signatureParsesRow : OpenClaim := { program := "ytichhbnpdhfimaadoor", sum := "bc490ca9a90820393638ed0f56db8babdc9cc917478bb87372e4f98ec962f50a", func := "witting/wittinglaw04.SignatureParses", spec := "signatureParses", inPlace := ["internal/abi.NoEscape", "internal/bytealg.MakeNoZero", "internal/bytealg.CountString", "internal/bytealg.IndexByteString", "internal/bytealg.IndexString"], named := ["witting/signature.agentNames", "witting/signature.factNames", "witting/signature.actionNames", "witting/signature.reserved", "unicode/utf8.first", "unicode/utf8.acceptRanges", "internal/bytealg.MaxLen"], plainKeys := false, apart := false, laid := [("unicode/utf8.acceptRanges", laid_unicode_utf8_acceptRanges), ("witting/signature.reserved", laid_witting_signature_reserved), ("witting/signature.agentNames", laid_witting_signature_agentNames), ("witting/signature.factNames", laid_witting_signature_factNames), ("witting/signature.actionNames", laid_witting_signature_actionNames), ("unicode/utf8.first", laid_unicode_utf8_first)] }
def SignatureParsesSaid : Prop := signatureParsesRow.holds Tryd.pinned (OpenSpec.ofChange signatureParsesSpec)

/-- ITS FALSE NEIGHBOUR: 'it returns false'. Refute it at one input. -/
def signatureParsesWrong : ChangeSpec := { name := "signatureParses", fn := fun _ => fun
  | [d1, d2] => { results := [.lit (.bool false)], args := [d1, d2] }
  | _ => none }
def SignatureParsesWrongFalsely : Prop := signatureParsesRow.holds Tryd.pinned (OpenSpec.ofChange signatureParsesWrong)

/-- 'wittinglaw04.SignatureBack': WHATEVER THE INPUT: true; the input reads as it did. -/
def signatureBackSpec : ChangeSpec := { name := "signatureBack", fn := fun _ => fun
  | [d1, d2] => { results := [.lit (.bool true)], args := [d1, d2] }
  | _ => none }
def signatureBackRow : OpenClaim := { program := "ytichhbnpdhfimaadoor", sum := "bc490ca9a90820393638ed0f56db8babdc9cc917478bb87372e4f98ec962f50a", func := "witting/wittinglaw04.SignatureBack", spec := "signatureBack", inPlace := ["internal/abi.NoEscape", "internal/bytealg.MakeNoZero", "internal/bytealg.CountString", "internal/bytealg.IndexByteString", "internal/bytealg.IndexString"], named := ["witting/signature.agentNames", "witting/signature.factNames", "witting/signature.actionNames", "witting/signature.reserved", "unicode/utf8.first", "unicode/utf8.acceptRanges", "internal/bytealg.MaxLen"], plainKeys := false, apart := false, laid := [("unicode/utf8.acceptRanges", laid_unicode_utf8_acceptRanges), ("witting/signature.reserved", laid_witting_signature_reserved), ("witting/signature.agentNames", laid_witting_signature_agentNames), ("witting/signature.factNames", laid_witting_signature_factNames), ("witting/signature.actionNames", laid_witting_signature_actionNames), ("unicode/utf8.first", laid_unicode_utf8_first)] }
def SignatureBackSaid : Prop := signatureBackRow.holds Tryd.pinned (OpenSpec.ofChange signatureBackSpec)

/-- ITS FALSE NEIGHBOUR: 'it returns false'. Refute it at one input. -/
def signatureBackWrong : ChangeSpec := { name := "signatureBack", fn := fun _ => fun
  | [d1, d2] => { results := [.lit (.bool false)], args := [d1, d2] }
  | _ => none }
def SignatureBackWrongFalsely : Prop := signatureBackRow.holds Tryd.pinned (OpenSpec.ofChange signatureBackWrong)

/-- 'wittinglaw04.SignatureApart': WHATEVER THE INPUT: true; the input reads as it did. -/
def signatureApartSpec : ChangeSpec := { name := "signatureApart", fn := fun _ => fun
  | [d] => { results := [.lit (.bool true)], args := [d] }
  | _ => none }
def signatureApartRow : OpenClaim := { program := "ytichhbnpdhfimaadoor", sum := "bc490ca9a90820393638ed0f56db8babdc9cc917478bb87372e4f98ec962f50a", func := "witting/wittinglaw04.SignatureApart", spec := "signatureApart", inPlace := ["internal/abi.NoEscape", "internal/bytealg.MakeNoZero", "internal/bytealg.CountString", "internal/bytealg.IndexByteString", "internal/bytealg.IndexString"], named := ["witting/signature.agentNames", "witting/signature.factNames", "witting/signature.actionNames", "witting/signature.reserved", "unicode/utf8.first", "unicode/utf8.acceptRanges", "internal/bytealg.MaxLen"], plainKeys := false, apart := false, laid := [("unicode/utf8.acceptRanges", laid_unicode_utf8_acceptRanges), ("witting/signature.reserved", laid_witting_signature_reserved), ("witting/signature.agentNames", laid_witting_signature_agentNames), ("witting/signature.factNames", laid_witting_signature_factNames), ("witting/signature.actionNames", laid_witting_signature_actionNames), ("unicode/utf8.first", laid_unicode_utf8_first)] }
def SignatureApartSaid : Prop := signatureApartRow.holds Tryd.pinned (OpenSpec.ofChange signatureApartSpec)

/-- ITS FALSE NEIGHBOUR: 'it returns false'. Refute it at one input. -/
def signatureApartWrong : ChangeSpec := { name := "signatureApart", fn := fun _ => fun
  | [d] => { results := [.lit (.bool false)], args := [d] }
  | _ => none }
def SignatureApartWrongFalsely : Prop := signatureApartRow.holds Tryd.pinned (OpenSpec.ofChange signatureApartWrong)

/-- 'wittinglaw04.SignatureOrder': WHATEVER THE INPUT: true; the input reads as it did. -/
def signatureOrderSpec : ChangeSpec := { name := "signatureOrder", fn := fun _ => fun
  | [d1, d2] => { results := [.lit (.bool true)], args := [d1, d2] }
  | _ => none }
def signatureOrderRow : OpenClaim := { program := "ytichhbnpdhfimaadoor", sum := "bc490ca9a90820393638ed0f56db8babdc9cc917478bb87372e4f98ec962f50a", func := "witting/wittinglaw04.SignatureOrder", spec := "signatureOrder", inPlace := ["internal/abi.NoEscape", "internal/bytealg.MakeNoZero", "internal/bytealg.CountString", "internal/bytealg.IndexByteString", "internal/bytealg.IndexString"], named := ["witting/signature.agentNames", "witting/signature.factNames", "witting/signature.actionNames", "witting/signature.reserved", "unicode/utf8.first", "unicode/utf8.acceptRanges", "internal/bytealg.MaxLen"], plainKeys := false, apart := false, laid := [("unicode/utf8.acceptRanges", laid_unicode_utf8_acceptRanges), ("witting/signature.reserved", laid_witting_signature_reserved), ("witting/signature.agentNames", laid_witting_signature_agentNames), ("witting/signature.factNames", laid_witting_signature_factNames), ("witting/signature.actionNames", laid_witting_signature_actionNames), ("unicode/utf8.first", laid_unicode_utf8_first)] }
def SignatureOrderSaid : Prop := signatureOrderRow.holds Tryd.pinned (OpenSpec.ofChange signatureOrderSpec)

/-- ITS FALSE NEIGHBOUR: 'it returns false'. Refute it at one input. -/
def signatureOrderWrong : ChangeSpec := { name := "signatureOrder", fn := fun _ => fun
  | [d1, d2] => { results := [.lit (.bool false)], args := [d1, d2] }
  | _ => none }
def SignatureOrderWrongFalsely : Prop := signatureOrderRow.holds Tryd.pinned (OpenSpec.ofChange signatureOrderWrong)

/- THE SECOND FORM. 'bulk': how many values and letters a reading holds, each counted each time it is reached (what is shared counts as often as it is met; a slice's spare places count too). A statement '..UptoSaid' is the law's where the arguments, and the package variables that the reading takes, are together of bulk at most 1048576: NARROWER than '..Said'. Prove '..Said' where nothing that the law and all that it calls make is longer than what came in: it says more and counts as full. Else prove '..UptoSaid'. A law counts once. -/
mutual
def uptoBulk {H : Type} : DataW H → Nat
  | .lit (.string bytes) => bytes.length + 1
  | .lit _ => 1
  | .nil => 1
  | .ptr d => uptoBulk d + 1
  | .slice elems spare => uptoBulkAll elems + uptoBulkAll spare + 1
  | .agg parts => uptoBulkAll parts + 1
  | .iface _ d => uptoBulk d + 1
  | .map entries => uptoBulkEntries entries + 1
  | .held _ => 1
def uptoBulkAll {H : Type} : List (DataW H) → Nat
  | [] => 0
  | d :: r => uptoBulk d + uptoBulkAll r
def uptoBulkEntries {H : Type} : List (Lit × DataW H) → Nat
  | [] => 0
  | x :: r => uptoBulkEntry x + uptoBulkEntries r
def uptoBulkEntry {H : Type} : Lit × DataW H → Nat
  | (.string bytes, d) => bytes.length + uptoBulk d + 1
  | (_, d) => uptoBulk d + 1
 end
def uptoSmall : (H : Type) → List (DataW H) → Bool := fun _ ds => decide (uptoBulkAll ds ≤ 1048576)
def OpenSpec.upto (s : _root_.Go.ChangeSpec) : _root_.Go.OpenSpec := { _root_.Go.OpenSpec.ofChange s with cond := some uptoSmall }

/-- 'wittinglaw03.PartitionOf', WHERE WHAT IT READS IS OF BULK AT MOST 1048576: true; the input reads as it did. -/
def partitionOfUptoRow : OpenClaim := { program := "ytichhbnpdhfimaadoor", sum := "bc490ca9a90820393638ed0f56db8babdc9cc917478bb87372e4f98ec962f50a", func := "witting/wittinglaw03.PartitionOf", spec := "partitionOf", unfollowed := true, recurses := true, named := ["math/bits.deBruijn64tab", "witting/partition.finest"], plainKeys := false, apart := false, laid := [("math/bits.deBruijn64tab", laid_math_bits_deBruijn64tab), ("witting/partition.finest", laid_witting_partition_finest)], narrowed := true }
def PartitionOfUptoSaid : Prop := partitionOfUptoRow.holds Tryd.pinned (OpenSpec.upto partitionOfSpec)

/-- 'wittinglaw03.PartitionBack', WHERE WHAT IT READS IS OF BULK AT MOST 1048576: true; the input reads as it did. -/
def partitionBackUptoRow : OpenClaim := { program := "ytichhbnpdhfimaadoor", sum := "bc490ca9a90820393638ed0f56db8babdc9cc917478bb87372e4f98ec962f50a", func := "witting/wittinglaw03.PartitionBack", spec := "partitionBack", unfollowed := true, recurses := true, named := ["math/bits.deBruijn64tab"], plainKeys := false, apart := false, laid := [("math/bits.deBruijn64tab", laid_math_bits_deBruijn64tab)], narrowed := true }
def PartitionBackUptoSaid : Prop := partitionBackUptoRow.holds Tryd.pinned (OpenSpec.upto partitionBackSpec)

/-- 'wittinglaw04.SignatureChecks', WHERE WHAT IT READS IS OF BULK AT MOST 1048576: true; the input reads as it did. -/
def signatureChecksUptoRow : OpenClaim := { program := "ytichhbnpdhfimaadoor", sum := "bc490ca9a90820393638ed0f56db8babdc9cc917478bb87372e4f98ec962f50a", func := "witting/wittinglaw04.SignatureChecks", spec := "signatureChecks", inPlace := ["internal/abi.NoEscape", "internal/bytealg.MakeNoZero", "internal/bytealg.CountString", "internal/bytealg.IndexByteString", "internal/bytealg.IndexString"], named := ["witting/signature.agentNames", "witting/signature.factNames", "witting/signature.actionNames", "witting/signature.reserved", "unicode/utf8.first", "unicode/utf8.acceptRanges", "internal/bytealg.MaxLen"], plainKeys := false, apart := false, laid := [("unicode/utf8.acceptRanges", laid_unicode_utf8_acceptRanges), ("witting/signature.reserved", laid_witting_signature_reserved), ("witting/signature.agentNames", laid_witting_signature_agentNames), ("witting/signature.factNames", laid_witting_signature_factNames), ("witting/signature.actionNames", laid_witting_signature_actionNames), ("unicode/utf8.first", laid_unicode_utf8_first)], narrowed := true }
def SignatureChecksUptoSaid : Prop := signatureChecksUptoRow.holds Tryd.pinned (OpenSpec.upto signatureChecksSpec)

/-- 'wittinglaw04.SignatureFinds', WHERE WHAT IT READS IS OF BULK AT MOST 1048576: true; the input reads as it did. -/
def signatureFindsUptoRow : OpenClaim := { program := "ytichhbnpdhfimaadoor", sum := "bc490ca9a90820393638ed0f56db8babdc9cc917478bb87372e4f98ec962f50a", func := "witting/wittinglaw04.SignatureFinds", spec := "signatureFinds", inPlace := ["internal/abi.NoEscape", "internal/bytealg.MakeNoZero", "internal/bytealg.CountString", "internal/bytealg.IndexByteString", "internal/bytealg.IndexString"], named := ["witting/signature.agentNames", "witting/signature.factNames", "witting/signature.actionNames", "witting/signature.reserved", "unicode/utf8.first", "unicode/utf8.acceptRanges", "internal/bytealg.MaxLen"], plainKeys := false, apart := false, laid := [("unicode/utf8.acceptRanges", laid_unicode_utf8_acceptRanges), ("witting/signature.reserved", laid_witting_signature_reserved), ("witting/signature.agentNames", laid_witting_signature_agentNames), ("witting/signature.factNames", laid_witting_signature_factNames), ("witting/signature.actionNames", laid_witting_signature_actionNames), ("unicode/utf8.first", laid_unicode_utf8_first)], narrowed := true }
def SignatureFindsUptoSaid : Prop := signatureFindsUptoRow.holds Tryd.pinned (OpenSpec.upto signatureFindsSpec)

/-- 'wittinglaw04.SignatureGroups', WHERE WHAT IT READS IS OF BULK AT MOST 1048576: true; the input reads as it did. -/
def signatureGroupsUptoRow : OpenClaim := { program := "ytichhbnpdhfimaadoor", sum := "bc490ca9a90820393638ed0f56db8babdc9cc917478bb87372e4f98ec962f50a", func := "witting/wittinglaw04.SignatureGroups", spec := "signatureGroups", inPlace := ["internal/abi.NoEscape", "internal/bytealg.MakeNoZero", "internal/bytealg.CountString", "internal/bytealg.IndexByteString", "internal/bytealg.IndexString"], named := ["witting/signature.agentNames", "witting/signature.factNames", "witting/signature.actionNames", "witting/signature.reserved", "unicode/utf8.first", "unicode/utf8.acceptRanges", "internal/bytealg.MaxLen"], plainKeys := false, apart := false, laid := [("unicode/utf8.acceptRanges", laid_unicode_utf8_acceptRanges), ("witting/signature.reserved", laid_witting_signature_reserved), ("witting/signature.agentNames", laid_witting_signature_agentNames), ("witting/signature.factNames", laid_witting_signature_factNames), ("witting/signature.actionNames", laid_witting_signature_actionNames), ("unicode/utf8.first", laid_unicode_utf8_first)], narrowed := true }
def SignatureGroupsUptoSaid : Prop := signatureGroupsUptoRow.holds Tryd.pinned (OpenSpec.upto signatureGroupsSpec)

/-- 'wittinglaw04.SignatureParses', WHERE WHAT IT READS IS OF BULK AT MOST 1048576: true; the input reads as it did. -/
def signatureParsesUptoRow : OpenClaim := { program := "ytichhbnpdhfimaadoor", sum := "bc490ca9a90820393638ed0f56db8babdc9cc917478bb87372e4f98ec962f50a", func := "witting/wittinglaw04.SignatureParses", spec := "signatureParses", inPlace := ["internal/abi.NoEscape", "internal/bytealg.MakeNoZero", "internal/bytealg.CountString", "internal/bytealg.IndexByteString", "internal/bytealg.IndexString"], named := ["witting/signature.agentNames", "witting/signature.factNames", "witting/signature.actionNames", "witting/signature.reserved", "unicode/utf8.first", "unicode/utf8.acceptRanges", "internal/bytealg.MaxLen"], plainKeys := false, apart := false, laid := [("unicode/utf8.acceptRanges", laid_unicode_utf8_acceptRanges), ("witting/signature.reserved", laid_witting_signature_reserved), ("witting/signature.agentNames", laid_witting_signature_agentNames), ("witting/signature.factNames", laid_witting_signature_factNames), ("witting/signature.actionNames", laid_witting_signature_actionNames), ("unicode/utf8.first", laid_unicode_utf8_first)], narrowed := true }
def SignatureParsesUptoSaid : Prop := signatureParsesUptoRow.holds Tryd.pinned (OpenSpec.upto signatureParsesSpec)

/-- 'wittinglaw04.SignatureBack', WHERE WHAT IT READS IS OF BULK AT MOST 1048576: true; the input reads as it did. -/
def signatureBackUptoRow : OpenClaim := { program := "ytichhbnpdhfimaadoor", sum := "bc490ca9a90820393638ed0f56db8babdc9cc917478bb87372e4f98ec962f50a", func := "witting/wittinglaw04.SignatureBack", spec := "signatureBack", inPlace := ["internal/abi.NoEscape", "internal/bytealg.MakeNoZero", "internal/bytealg.CountString", "internal/bytealg.IndexByteString", "internal/bytealg.IndexString"], named := ["witting/signature.agentNames", "witting/signature.factNames", "witting/signature.actionNames", "witting/signature.reserved", "unicode/utf8.first", "unicode/utf8.acceptRanges", "internal/bytealg.MaxLen"], plainKeys := false, apart := false, laid := [("unicode/utf8.acceptRanges", laid_unicode_utf8_acceptRanges), ("witting/signature.reserved", laid_witting_signature_reserved), ("witting/signature.agentNames", laid_witting_signature_agentNames), ("witting/signature.factNames", laid_witting_signature_factNames), ("witting/signature.actionNames", laid_witting_signature_actionNames), ("unicode/utf8.first", laid_unicode_utf8_first)], narrowed := true }
def SignatureBackUptoSaid : Prop := signatureBackUptoRow.holds Tryd.pinned (OpenSpec.upto signatureBackSpec)

/-- 'wittinglaw04.SignatureApart', WHERE WHAT IT READS IS OF BULK AT MOST 1048576: true; the input reads as it did. -/
def signatureApartUptoRow : OpenClaim := { program := "ytichhbnpdhfimaadoor", sum := "bc490ca9a90820393638ed0f56db8babdc9cc917478bb87372e4f98ec962f50a", func := "witting/wittinglaw04.SignatureApart", spec := "signatureApart", inPlace := ["internal/abi.NoEscape", "internal/bytealg.MakeNoZero", "internal/bytealg.CountString", "internal/bytealg.IndexByteString", "internal/bytealg.IndexString"], named := ["witting/signature.agentNames", "witting/signature.factNames", "witting/signature.actionNames", "witting/signature.reserved", "unicode/utf8.first", "unicode/utf8.acceptRanges", "internal/bytealg.MaxLen"], plainKeys := false, apart := false, laid := [("unicode/utf8.acceptRanges", laid_unicode_utf8_acceptRanges), ("witting/signature.reserved", laid_witting_signature_reserved), ("witting/signature.agentNames", laid_witting_signature_agentNames), ("witting/signature.factNames", laid_witting_signature_factNames), ("witting/signature.actionNames", laid_witting_signature_actionNames), ("unicode/utf8.first", laid_unicode_utf8_first)], narrowed := true }
def SignatureApartUptoSaid : Prop := signatureApartUptoRow.holds Tryd.pinned (OpenSpec.upto signatureApartSpec)

/-- 'wittinglaw04.SignatureOrder', WHERE WHAT IT READS IS OF BULK AT MOST 1048576: true; the input reads as it did. -/
def signatureOrderUptoRow : OpenClaim := { program := "ytichhbnpdhfimaadoor", sum := "bc490ca9a90820393638ed0f56db8babdc9cc917478bb87372e4f98ec962f50a", func := "witting/wittinglaw04.SignatureOrder", spec := "signatureOrder", inPlace := ["internal/abi.NoEscape", "internal/bytealg.MakeNoZero", "internal/bytealg.CountString", "internal/bytealg.IndexByteString", "internal/bytealg.IndexString"], named := ["witting/signature.agentNames", "witting/signature.factNames", "witting/signature.actionNames", "witting/signature.reserved", "unicode/utf8.first", "unicode/utf8.acceptRanges", "internal/bytealg.MaxLen"], plainKeys := false, apart := false, laid := [("unicode/utf8.acceptRanges", laid_unicode_utf8_acceptRanges), ("witting/signature.reserved", laid_witting_signature_reserved), ("witting/signature.agentNames", laid_witting_signature_agentNames), ("witting/signature.factNames", laid_witting_signature_factNames), ("witting/signature.actionNames", laid_witting_signature_actionNames), ("unicode/utf8.first", laid_unicode_utf8_first)], narrowed := true }
def SignatureOrderUptoSaid : Prop := signatureOrderUptoRow.holds Tryd.pinned (OpenSpec.upto signatureOrderSpec)

end Rows
end Go.Proofs.YtichhbnpdhfimaaDoor
