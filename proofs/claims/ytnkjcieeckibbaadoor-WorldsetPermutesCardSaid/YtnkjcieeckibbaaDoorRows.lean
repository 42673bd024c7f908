/-
  NARROWER THAN 'FOR EVERY INPUT', by the rows' own cells (each row's printed sentence says how): WorldsetLists: laid · WorldsetRenames: laid · WorldsetSteps: laid · WorldsetTexts: laid · WorldsetRestores: laid · WorldsetChoices: laid · WorldsetSubsets: laid · WorldsetPermutes: laid · RelationChecks: laid · RelationJoins: laid · RelationCloses: laid · RelationLooks: laid.
  DERIVED. THE GIVEN ROWS OF THIS SEAT. 12 by the template 'for every input the law returns true; each argument reads behind the call as it read before'; 0 by the template 'total and deterministic' (their statements: YtnkjcieeckibbaaDoorTotals.lean).
  GIVEN WITH THE SEED: the statements are not yours to turn. If you find one false, say at which input.
  Laid BY PROGRAM, IN A SANDBOX (cutbox-rows.mjs): the forced cells as the released guide's own fill.sh prints them over the translation 6ac2f31b7778d1e1… (all of the seat's roots in one cut). By AI agents, Wed Nov 11 2026. No macro, syntax, notation, axiom, sorry.
-/
import Derived.Test.YtnkjcieeckibbaaDoorChecked
import GoSem.PinnedTables
import GoSem.Claim
import GoSem.ClaimJoined
import GoSem.ClaimMapViews
import Derived.JoinedTies
import Derived.KernelRfl
namespace Go.Proofs.YtnkjcieeckibbaaDoor
/- THE CELL 'sum', in the pinned program and in every row, IS THE sha256 OF THE DUMP (.gsa) THAT YtnkjcieeckibbaaDoorProg.lean LOADS. Nothing in Lean hashes anything: it is a label: what it is worth is what the hold of that sum in a sandbox is worth. -/
noncomputable def Tryd.pinned : Pinned := { name := "ytnkjcieeckibbaadoor", sum := "6ac2f31b7778d1e13c7f9d21daa9d02aaec6af0c9a06444b4e84c3a6c9597301", checked := Tryd.checked }
namespace Rows
def none {H : Type} : Left H := { results := [], args := [] }

/- WHAT THE LISTED PACKAGE-LEVEL VARIABLES READ AS WHEN THE CALL BEGINS. Each datum BY PROGRAM (the guide's laid-datum.mjs) off the statement by which the dump's own 'gosem.cut.vars' lays the variable. In a bare row this is a premise. The card (YtnkjcieeckibbaaDoorCards.lean) ties it to the program's text. -/
def laid_math_bits_deBruijn32tab {H : Type} : DataW H := .agg [.lit (.int .u8 0), .lit (.int .u8 1), .lit (.int .u8 28), .lit (.int .u8 2), .lit (.int .u8 29), .lit (.int .u8 14), .lit (.int .u8 24), .lit (.int .u8 3), .lit (.int .u8 30), .lit (.int .u8 22), .lit (.int .u8 20), .lit (.int .u8 15), .lit (.int .u8 25), .lit (.int .u8 17), .lit (.int .u8 4), .lit (.int .u8 8), .lit (.int .u8 31), .lit (.int .u8 27), .lit (.int .u8 13), .lit (.int .u8 23), .lit (.int .u8 21), .lit (.int .u8 19), .lit (.int .u8 16), .lit (.int .u8 7), .lit (.int .u8 26), .lit (.int .u8 12), .lit (.int .u8 18), .lit (.int .u8 6), .lit (.int .u8 11), .lit (.int .u8 5), .lit (.int .u8 10), .lit (.int .u8 9)]
def laid_math_bits_deBruijn64tab {H : Type} : DataW H := .agg [.lit (.int .u8 0), .lit (.int .u8 1), .lit (.int .u8 56), .lit (.int .u8 2), .lit (.int .u8 57), .lit (.int .u8 49), .lit (.int .u8 28), .lit (.int .u8 3), .lit (.int .u8 61), .lit (.int .u8 58), .lit (.int .u8 42), .lit (.int .u8 50), .lit (.int .u8 38), .lit (.int .u8 29), .lit (.int .u8 17), .lit (.int .u8 4), .lit (.int .u8 62), .lit (.int .u8 47), .lit (.int .u8 59), .lit (.int .u8 36), .lit (.int .u8 45), .lit (.int .u8 43), .lit (.int .u8 51), .lit (.int .u8 22), .lit (.int .u8 53), .lit (.int .u8 39), .lit (.int .u8 33), .lit (.int .u8 30), .lit (.int .u8 24), .lit (.int .u8 18), .lit (.int .u8 12), .lit (.int .u8 5), .lit (.int .u8 63), .lit (.int .u8 55), .lit (.int .u8 48), .lit (.int .u8 27), .lit (.int .u8 60), .lit (.int .u8 41), .lit (.int .u8 37), .lit (.int .u8 16), .lit (.int .u8 46), .lit (.int .u8 35), .lit (.int .u8 44), .lit (.int .u8 21), .lit (.int .u8 52), .lit (.int .u8 32), .lit (.int .u8 23), .lit (.int .u8 11), .lit (.int .u8 54), .lit (.int .u8 26), .lit (.int .u8 40), .lit (.int .u8 15), .lit (.int .u8 34), .lit (.int .u8 20), .lit (.int .u8 31), .lit (.int .u8 10), .lit (.int .u8 25), .lit (.int .u8 14), .lit (.int .u8 19), .lit (.int .u8 9), .lit (.int .u8 13), .lit (.int .u8 8), .lit (.int .u8 7), .lit (.int .u8 6)]
def laid_internal_strconv_uint64pow10 {H : Type} : DataW H := .agg [.lit (.int .u64 1), .lit (.int .u64 10), .lit (.int .u64 100), .lit (.int .u64 1000), .lit (.int .u64 10000), .lit (.int .u64 100000), .lit (.int .u64 1000000), .lit (.int .u64 10000000), .lit (.int .u64 100000000), .lit (.int .u64 1000000000), .lit (.int .u64 10000000000), .lit (.int .u64 100000000000), .lit (.int .u64 1000000000000), .lit (.int .u64 10000000000000), .lit (.int .u64 100000000000000), .lit (.int .u64 1000000000000000), .lit (.int .u64 10000000000000000), .lit (.int .u64 100000000000000000), .lit (.int .u64 1000000000000000000), .lit (.int .u64 10000000000000000000)]
def laid_unicode_utf8_acceptRanges {H : Type} : DataW H := .agg [.agg [.lit (.int .u8 128), .lit (.int .u8 191)], .agg [.lit (.int .u8 160), .lit (.int .u8 191)], .agg [.lit (.int .u8 128), .lit (.int .u8 159)], .agg [.lit (.int .u8 144), .lit (.int .u8 191)], .agg [.lit (.int .u8 128), .lit (.int .u8 143)], .agg [.lit (.int .u8 0), .lit (.int .u8 0)], .agg [.lit (.int .u8 0), .lit (.int .u8 0)], .agg [.lit (.int .u8 0), .lit (.int .u8 0)], .agg [.lit (.int .u8 0), .lit (.int .u8 0)], .agg [.lit (.int .u8 0), .lit (.int .u8 0)], .agg [.lit (.int .u8 0), .lit (.int .u8 0)], .agg [.lit (.int .u8 0), .lit (.int .u8 0)], .agg [.lit (.int .u8 0), .lit (.int .u8 0)], .agg [.lit (.int .u8 0), .lit (.int .u8 0)], .agg [.lit (.int .u8 0), .lit (.int .u8 0)], .agg [.lit (.int .u8 0), .lit (.int .u8 0)]]
/-- One of Go's own tables, pinned by name: the form's constant. -/
def laid_unicode_utf8_first : DataW Unit := Go.Pinned.utf8First

/-- 'wittinglaw01.WorldsetLists': WHATEVER THE INPUT: true; the input reads as it did. -/
def worldsetListsSpec : ChangeSpec := { name := "worldsetLists", fn := fun _ => fun
  | [d1, d2, d3] => { results := [.lit (.bool true)], args := [d1, d2, d3] }
  | _ => none }
def worldsetListsRow : OpenClaim := { program := "ytnkjcieeckibbaadoor", sum := "6ac2f31b7778d1e13c7f9d21daa9d02aaec6af0c9a06444b4e84c3a6c9597301", func := "witting/wittinglaw01.WorldsetLists", spec := "worldsetLists", inPlace := ["internal/bytealg.CountString", "internal/bytealg.IndexByteString", "internal/bytealg.IndexString", "internal/abi.NoEscape"], named := ["math/bits.deBruijn64tab", "unicode/utf8.first", "unicode/utf8.acceptRanges", "internal/bytealg.MaxLen", "internal/strconv.uint64pow10", "math/bits.deBruijn32tab"], apart := false, laid := [("math/bits.deBruijn32tab", laid_math_bits_deBruijn32tab), ("math/bits.deBruijn64tab", laid_math_bits_deBruijn64tab), ("internal/strconv.uint64pow10", laid_internal_strconv_uint64pow10), ("unicode/utf8.acceptRanges", laid_unicode_utf8_acceptRanges), ("unicode/utf8.first", laid_unicode_utf8_first)] }
def WorldsetListsSaid : Prop := worldsetListsRow.holds Tryd.pinned (OpenSpec.ofChange worldsetListsSpec)

/-- ITS FALSE NEIGHBOUR: 'it returns false'. Refute it at one input. -/
def worldsetListsWrong : ChangeSpec := { name := "worldsetLists", fn := fun _ => fun
  | [d1, d2, d3] => { results := [.lit (.bool false)], args := [d1, d2, d3] }
  | _ => none }
def WorldsetListsWrongFalsely : Prop := worldsetListsRow.holds Tryd.pinned (OpenSpec.ofChange worldsetListsWrong)

/-- 'wittinglaw01.WorldsetRenames': WHATEVER THE INPUT: true; the input reads as it did. -/
def worldsetRenamesSpec : ChangeSpec := { name := "worldsetRenames", fn := fun _ => fun
  | [d1, d2] => { results := [.lit (.bool true)], args := [d1, d2] }
  | _ => none }
def worldsetRenamesRow : OpenClaim := { program := "ytnkjcieeckibbaadoor", sum := "6ac2f31b7778d1e13c7f9d21daa9d02aaec6af0c9a06444b4e84c3a6c9597301", func := "witting/wittinglaw01.WorldsetRenames", spec := "worldsetRenames", inPlace := ["internal/bytealg.CountString", "internal/bytealg.IndexByteString", "internal/bytealg.IndexString", "internal/abi.NoEscape"], named := ["math/bits.deBruijn64tab", "unicode/utf8.first", "unicode/utf8.acceptRanges", "internal/bytealg.MaxLen", "internal/strconv.uint64pow10", "math/bits.deBruijn32tab"], apart := false, laid := [("math/bits.deBruijn32tab", laid_math_bits_deBruijn32tab), ("math/bits.deBruijn64tab", laid_math_bits_deBruijn64tab), ("internal/strconv.uint64pow10", laid_internal_strconv_uint64pow10), ("unicode/utf8.acceptRanges", laid_unicode_utf8_acceptRanges), ("unicode/utf8.first", laid_unicode_utf8_first)] }
def WorldsetRenamesSaid : Prop := worldsetRenamesRow.holds Tryd.pinned (OpenSpec.ofChange worldsetRenamesSpec)

/-- ITS FALSE NEIGHBOUR: 'it returns false'. Refute it at one input. -/
def worldsetRenamesWrong : ChangeSpec := { name := "worldsetRenames", fn := fun _ => fun
  | [d1, d2] => { results := [.lit (.bool false)], args := [d1, d2] }
  | _ => none }
def WorldsetRenamesWrongFalsely : Prop := worldsetRenamesRow.holds Tryd.pinned (OpenSpec.ofChange worldsetRenamesWrong)

/-- 'wittinglaw01.WorldsetSteps': WHATEVER THE INPUT: true; the input reads as it did. -/
def worldsetStepsSpec : ChangeSpec := { name := "worldsetSteps", fn := fun _ => fun
  | [d1, d2, d3] => { results := [.lit (.bool true)], args := [d1, d2, d3] }
  | _ => none }
def worldsetStepsRow : OpenClaim := { program := "ytnkjcieeckibbaadoor", sum := "6ac2f31b7778d1e13c7f9d21daa9d02aaec6af0c9a06444b4e84c3a6c9597301", func := "witting/wittinglaw01.WorldsetSteps", spec := "worldsetSteps", inPlace := ["internal/bytealg.CountString", "internal/bytealg.IndexByteString", "internal/bytealg.IndexString", "internal/abi.NoEscape"], named := ["math/bits.deBruijn64tab", "unicode/utf8.first", "unicode/utf8.acceptRanges", "internal/bytealg.MaxLen", "internal/strconv.uint64pow10", "math/bits.deBruijn32tab"], apart := false, laid := [("math/bits.deBruijn32tab", laid_math_bits_deBruijn32tab), ("math/bits.deBruijn64tab", laid_math_bits_deBruijn64tab), ("internal/strconv.uint64pow10", laid_internal_strconv_uint64pow10), ("unicode/utf8.acceptRanges", laid_unicode_utf8_acceptRanges), ("unicode/utf8.first", laid_unicode_utf8_first)] }
def WorldsetStepsSaid : Prop := worldsetStepsRow.holds Tryd.pinned (OpenSpec.ofChange worldsetStepsSpec)

/-- ITS FALSE NEIGHBOUR: 'it returns false'. Refute it at one input. -/
def worldsetStepsWrong : ChangeSpec := { name := "worldsetSteps", fn := fun _ => fun
  | [d1, d2, d3] => { results := [.lit (.bool false)], args := [d1, d2, d3] }
  | _ => none }
def WorldsetStepsWrongFalsely : Prop := worldsetStepsRow.holds Tryd.pinned (OpenSpec.ofChange worldsetStepsWrong)

/-- 'wittinglaw01.WorldsetTexts': WHATEVER THE INPUT: true; the input reads as it did. -/
def worldsetTextsSpec : ChangeSpec := { name := "worldsetTexts", fn := fun _ => fun
  | [d1, d2] => { results := [.lit (.bool true)], args := [d1, d2] }
  | _ => none }
def worldsetTextsRow : OpenClaim := { program := "ytnkjcieeckibbaadoor", sum := "6ac2f31b7778d1e13c7f9d21daa9d02aaec6af0c9a06444b4e84c3a6c9597301", func := "witting/wittinglaw01.WorldsetTexts", spec := "worldsetTexts", inPlace := ["internal/bytealg.CountString", "internal/bytealg.IndexByteString", "internal/bytealg.IndexString", "internal/abi.NoEscape"], named := ["math/bits.deBruijn64tab", "unicode/utf8.first", "unicode/utf8.acceptRanges", "internal/bytealg.MaxLen", "internal/strconv.uint64pow10", "math/bits.deBruijn32tab"], apart := false, laid := [("math/bits.deBruijn32tab", laid_math_bits_deBruijn32tab), ("math/bits.deBruijn64tab", laid_math_bits_deBruijn64tab), ("internal/strconv.uint64pow10", laid_internal_strconv_uint64pow10), ("unicode/utf8.acceptRanges", laid_unicode_utf8_acceptRanges), ("unicode/utf8.first", laid_unicode_utf8_first)] }
def WorldsetTextsSaid : Prop := worldsetTextsRow.holds Tryd.pinned (OpenSpec.ofChange worldsetTextsSpec)

/-- ITS FALSE NEIGHBOUR: 'it returns false'. Refute it at one input. -/
def worldsetTextsWrong : ChangeSpec := { name := "worldsetTexts", fn := fun _ => fun
  | [d1, d2] => { results := [.lit (.bool false)], args := [d1, d2] }
  | _ => none }
def WorldsetTextsWrongFalsely : Prop := worldsetTextsRow.holds Tryd.pinned (OpenSpec.ofChange worldsetTextsWrong)

/-- 'wittinglaw01.WorldsetRestores': WHATEVER THE INPUT: true; the input reads as it did. -/
def worldsetRestoresSpec : ChangeSpec := { name := "worldsetRestores", fn := fun _ => fun
  | [d] => { results := [.lit (.bool true)], args := [d] }
  | _ => none }
def worldsetRestoresRow : OpenClaim := { program := "ytnkjcieeckibbaadoor", sum := "6ac2f31b7778d1e13c7f9d21daa9d02aaec6af0c9a06444b4e84c3a6c9597301", func := "witting/wittinglaw01.WorldsetRestores", spec := "worldsetRestores", inPlace := ["internal/abi.NoEscape", "internal/bytealg.CountString", "internal/bytealg.IndexByteString", "internal/bytealg.IndexString"], named := ["math/bits.deBruijn64tab", "internal/strconv.uint64pow10", "math/bits.deBruijn32tab", "unicode/utf8.first", "unicode/utf8.acceptRanges", "internal/bytealg.MaxLen"], apart := false, laid := [("math/bits.deBruijn32tab", laid_math_bits_deBruijn32tab), ("math/bits.deBruijn64tab", laid_math_bits_deBruijn64tab), ("internal/strconv.uint64pow10", laid_internal_strconv_uint64pow10), ("unicode/utf8.acceptRanges", laid_unicode_utf8_acceptRanges), ("unicode/utf8.first", laid_unicode_utf8_first)] }
def WorldsetRestoresSaid : Prop := worldsetRestoresRow.holds Tryd.pinned (OpenSpec.ofChange worldsetRestoresSpec)

/-- ITS FALSE NEIGHBOUR: 'it returns false'. Refute it at one input. -/
def worldsetRestoresWrong : ChangeSpec := { name := "worldsetRestores", fn := fun _ => fun
  | [d] => { results := [.lit (.bool false)], args := [d] }
  | _ => none }
def WorldsetRestoresWrongFalsely : Prop := worldsetRestoresRow.holds Tryd.pinned (OpenSpec.ofChange worldsetRestoresWrong)

/-- 'wittinglaw01.WorldsetChoices': WHATEVER THE INPUT: true; the input reads as it did. -/
def worldsetChoicesSpec : ChangeSpec := { name := "worldsetChoices", fn := fun _ => fun
  | [d1, d2] => { results := [.lit (.bool true)], args := [d1, d2] }
  | _ => none }
def worldsetChoicesRow : OpenClaim := { program := "ytnkjcieeckibbaadoor", sum := "6ac2f31b7778d1e13c7f9d21daa9d02aaec6af0c9a06444b4e84c3a6c9597301", func := "witting/wittinglaw01.WorldsetChoices", spec := "worldsetChoices", inPlace := ["internal/bytealg.CountString", "internal/bytealg.IndexByteString", "internal/bytealg.IndexString", "internal/abi.NoEscape"], named := ["math/bits.deBruijn64tab", "unicode/utf8.first", "unicode/utf8.acceptRanges", "internal/bytealg.MaxLen", "internal/strconv.uint64pow10", "math/bits.deBruijn32tab"], apart := false, laid := [("math/bits.deBruijn32tab", laid_math_bits_deBruijn32tab), ("math/bits.deBruijn64tab", laid_math_bits_deBruijn64tab), ("internal/strconv.uint64pow10", laid_internal_strconv_uint64pow10), ("unicode/utf8.acceptRanges", laid_unicode_utf8_acceptRanges), ("unicode/utf8.first", laid_unicode_utf8_first)] }
def WorldsetChoicesSaid : Prop := worldsetChoicesRow.holds Tryd.pinned (OpenSpec.ofChange worldsetChoicesSpec)

/-- ITS FALSE NEIGHBOUR: 'it returns false'. Refute it at one input. -/
def worldsetChoicesWrong : ChangeSpec := { name := "worldsetChoices", fn := fun _ => fun
  | [d1, d2] => { results := [.lit (.bool false)], args := [d1, d2] }
  | _ => none }
def WorldsetChoicesWrongFalsely : Prop := worldsetChoicesRow.holds Tryd.pinned (OpenSpec.ofChange worldsetChoicesWrong)

/-- 'wittinglaw01.WorldsetSubsets': WHATEVER THE INPUT: true; the input reads as it did. -/
def worldsetSubsetsSpec : ChangeSpec := { name := "worldsetSubsets", fn := fun _ => fun
  | [d] => { results := [.lit (.bool true)], args := [d] }
  | _ => none }
def worldsetSubsetsRow : OpenClaim := { program := "ytnkjcieeckibbaadoor", sum := "6ac2f31b7778d1e13c7f9d21daa9d02aaec6af0c9a06444b4e84c3a6c9597301", func := "witting/wittinglaw01.WorldsetSubsets", spec := "worldsetSubsets", inPlace := ["internal/bytealg.CountString", "internal/bytealg.IndexByteString", "internal/bytealg.IndexString", "internal/abi.NoEscape"], named := ["math/bits.deBruijn64tab", "unicode/utf8.first", "unicode/utf8.acceptRanges", "internal/bytealg.MaxLen", "internal/strconv.uint64pow10", "math/bits.deBruijn32tab"], apart := false, laid := [("math/bits.deBruijn32tab", laid_math_bits_deBruijn32tab), ("math/bits.deBruijn64tab", laid_math_bits_deBruijn64tab), ("internal/strconv.uint64pow10", laid_internal_strconv_uint64pow10), ("unicode/utf8.acceptRanges", laid_unicode_utf8_acceptRanges), ("unicode/utf8.first", laid_unicode_utf8_first)] }
def WorldsetSubsetsSaid : Prop := worldsetSubsetsRow.holds Tryd.pinned (OpenSpec.ofChange worldsetSubsetsSpec)

/-- ITS FALSE NEIGHBOUR: 'it returns false'. Refute it at one input. -/
def worldsetSubsetsWrong : ChangeSpec := { name := "worldsetSubsets", fn := fun _ => fun
  | [d] => { results := [.lit (.bool false)], args := [d] }
  | _ => none }
def WorldsetSubsetsWrongFalsely : Prop := worldsetSubsetsRow.holds Tryd.pinned (OpenSpec.ofChange worldsetSubsetsWrong)

/-- 'wittinglaw01.WorldsetPermutes': WHATEVER THE INPUT: true; the input reads as it did. -/
def worldsetPermutesSpec : ChangeSpec := { name := "worldsetPermutes", fn := fun _ => fun
  | [d1, d2] => { results := [.lit (.bool true)], args := [d1, d2] }
  | _ => none }
def worldsetPermutesRow : OpenClaim := { program := "ytnkjcieeckibbaadoor", sum := "6ac2f31b7778d1e13c7f9d21daa9d02aaec6af0c9a06444b4e84c3a6c9597301", func := "witting/wittinglaw01.WorldsetPermutes", spec := "worldsetPermutes", inPlace := ["internal/bytealg.CountString", "internal/bytealg.IndexByteString", "internal/bytealg.IndexString", "internal/abi.NoEscape"], named := ["math/bits.deBruijn64tab", "unicode/utf8.first", "unicode/utf8.acceptRanges", "internal/bytealg.MaxLen", "internal/strconv.uint64pow10", "math/bits.deBruijn32tab"], apart := false, laid := [("math/bits.deBruijn32tab", laid_math_bits_deBruijn32tab), ("math/bits.deBruijn64tab", laid_math_bits_deBruijn64tab), ("internal/strconv.uint64pow10", laid_internal_strconv_uint64pow10), ("unicode/utf8.acceptRanges", laid_unicode_utf8_acceptRanges), ("unicode/utf8.first", laid_unicode_utf8_first)] }
def WorldsetPermutesSaid : Prop := worldsetPermutesRow.holds Tryd.pinned (OpenSpec.ofChange worldsetPermutesSpec)

/-- ITS FALSE NEIGHBOUR: 'it returns false'. Refute it at one input. -/
def worldsetPermutesWrong : ChangeSpec := { name := "worldsetPermutes", fn := fun _ => fun
  | [d1, d2] => { results := [.lit (.bool false)], args := [d1, d2] }
  | _ => none }
def WorldsetPermutesWrongFalsely : Prop := worldsetPermutesRow.holds Tryd.pinned (OpenSpec.ofChange worldsetPermutesWrong)

/-- 'wittinglaw02.RelationChecks': WHATEVER THE INPUT: true; the input reads as it did. -/
def relationChecksSpec : ChangeSpec := { name := "relationChecks", fn := fun _ => fun
  | [d1, d2, d3] => { results := [.lit (.bool true)], args := [d1, d2, d3] }
  | _ => none }
def relationChecksRow : OpenClaim := { program := "ytnkjcieeckibbaadoor", sum := "6ac2f31b7778d1e13c7f9d21daa9d02aaec6af0c9a06444b4e84c3a6c9597301", func := "witting/wittinglaw02.RelationChecks", spec := "relationChecks", unfollowed := true, recurses := true, named := ["math/bits.deBruijn64tab"], apart := false, laid := [("math/bits.deBruijn64tab", laid_math_bits_deBruijn64tab)] }
def RelationChecksSaid : Prop := relationChecksRow.holds Tryd.pinned (OpenSpec.ofChange relationChecksSpec)

/-- ITS FALSE NEIGHBOUR: 'it returns false'. Refute it at one input. -/
def relationChecksWrong : ChangeSpec := { name := "relationChecks", fn := fun _ => fun
  | [d1, d2, d3] => { results := [.lit (.bool false)], args := [d1, d2, d3] }
  | _ => none }
def RelationChecksWrongFalsely : Prop := relationChecksRow.holds Tryd.pinned (OpenSpec.ofChange relationChecksWrong)

/-- 'wittinglaw02.RelationJoins': WHATEVER THE INPUT: true; the input reads as it did. -/
def relationJoinsSpec : ChangeSpec := { name := "relationJoins", fn := fun _ => fun
  | [d1, d2] => { results := [.lit (.bool true)], args := [d1, d2] }
  | _ => none }
def relationJoinsRow : OpenClaim := { program := "ytnkjcieeckibbaadoor", sum := "6ac2f31b7778d1e13c7f9d21daa9d02aaec6af0c9a06444b4e84c3a6c9597301", func := "witting/wittinglaw02.RelationJoins", spec := "relationJoins", unfollowed := true, recurses := true, named := ["math/bits.deBruijn64tab"], apart := false, laid := [("math/bits.deBruijn64tab", laid_math_bits_deBruijn64tab)] }
def RelationJoinsSaid : Prop := relationJoinsRow.holds Tryd.pinned (OpenSpec.ofChange relationJoinsSpec)

/-- ITS FALSE NEIGHBOUR: 'it returns false'. Refute it at one input. -/
def relationJoinsWrong : ChangeSpec := { name := "relationJoins", fn := fun _ => fun
  | [d1, d2] => { results := [.lit (.bool false)], args := [d1, d2] }
  | _ => none }
def RelationJoinsWrongFalsely : Prop := relationJoinsRow.holds Tryd.pinned (OpenSpec.ofChange relationJoinsWrong)

/-- 'wittinglaw02.RelationCloses': WHATEVER THE INPUT: true; the input reads as it did. -/
def relationClosesSpec : ChangeSpec := { name := "relationCloses", fn := fun _ => fun
  | [d] => { results := [.lit (.bool true)], args := [d] }
  | _ => none }
def relationClosesRow : OpenClaim := { program := "ytnkjcieeckibbaadoor", sum := "6ac2f31b7778d1e13c7f9d21daa9d02aaec6af0c9a06444b4e84c3a6c9597301", func := "witting/wittinglaw02.RelationCloses", spec := "relationCloses", unfollowed := true, recurses := true, named := ["math/bits.deBruijn64tab"], apart := false, laid := [("math/bits.deBruijn64tab", laid_math_bits_deBruijn64tab)] }
def RelationClosesSaid : Prop := relationClosesRow.holds Tryd.pinned (OpenSpec.ofChange relationClosesSpec)

/-- ITS FALSE NEIGHBOUR: 'it returns false'. Refute it at one input. -/
def relationClosesWrong : ChangeSpec := { name := "relationCloses", fn := fun _ => fun
  | [d] => { results := [.lit (.bool false)], args := [d] }
  | _ => none }
def RelationClosesWrongFalsely : Prop := relationClosesRow.holds Tryd.pinned (OpenSpec.ofChange relationClosesWrong)

/-- 'wittinglaw02.RelationLooks': WHATEVER THE INPUT: true; the input reads as it did. -/
def relationLooksSpec : ChangeSpec := { name := "relationLooks", fn := fun _ => fun
  | [d1, d2] => { results := [.lit (.bool true)], args := [d1, d2] }
  | _ => none }
def relationLooksRow : OpenClaim := { program := "ytnkjcieeckibbaadoor", sum := "6ac2f31b7778d1e13c7f9d21daa9d02aaec6af0c9a06444b4e84c3a6c9597301", func := "witting/wittinglaw02.RelationLooks", spec := "relationLooks", unfollowed := true, recurses := true, named := ["math/bits.deBruijn64tab"], apart := false, laid := [("math/bits.deBruijn64tab", laid_math_bits_deBruijn64tab)] }
def RelationLooksSaid : Prop := relationLooksRow.holds Tryd.pinned (OpenSpec.ofChange relationLooksSpec)

/-- ITS FALSE NEIGHBOUR: 'it returns false'. Refute it at one input. -/
def relationLooksWrong : ChangeSpec := { name := "relationLooks", fn := fun _ => fun
  | [d1, d2] => { results := [.lit (.bool false)], args := [d1, d2] }
  | _ => none }
def RelationLooksWrongFalsely : Prop := relationLooksRow.holds Tryd.pinned (OpenSpec.ofChange relationLooksWrong)

/- THE SECOND FORM. 'bulk': how many values and letters a reading holds, each counted each time it is reached (what is shared counts as often as it is met; a slice's spare places count too). A statement '..UptoSaid' is the law's where the arguments, and the package variables that the reading takes, are together of bulk at most 1048576: NARROWER than '..Said'. Prove '..Said' where nothing that the law and all that it calls make is longer than what came in: it says more and counts as full. Else prove '..UptoSaid'. A law counts once. -/
mutual
def uptoBulk {H : Type} : DataW H → Nat
  | .lit (.string bytes) => bytes.length + 1
  | .lit _ => 1
  | .nil => 1
  | .ptr d => uptoBulk d + 1
  | .slice elems spare => uptoBulkAll elems + uptoBulkAll spare + 1
  | .agg parts => uptoBulkAll parts + 1
  | .iface _ d => uptoBulk d + 1
  | .map entries => uptoBulkEntries entries + 1
  | .held _ => 1
def uptoBulkAll {H : Type} : List (DataW H) → Nat
  | [] => 0
  | d :: r => uptoBulk d + uptoBulkAll r
def uptoBulkEntries {H : Type} : List (Lit × DataW H) → Nat
  | [] => 0
  | x :: r => uptoBulkEntry x + uptoBulkEntries r
def uptoBulkEntry {H : Type} : Lit × DataW H → Nat
  | (.string bytes, d) => bytes.length + uptoBulk d + 1
  | (_, d) => uptoBulk d + 1
 end
def uptoSmall : (H : Type) → List (DataW H) → Bool := fun _ ds => decide (uptoBulkAll ds ≤ 1048576)
def OpenSpec.upto (s : _root_.Go.ChangeSpec) : _root_.Go.OpenSpec := { _root_.Go.OpenSpec.ofChange s with cond := some uptoSmall }

/-- 'wittinglaw01.WorldsetLists', WHERE WHAT IT READS IS OF BULK AT MOST 1048576: true; the input reads as it did. -/
def worldsetListsUptoRow : OpenClaim := { program := "ytnkjcieeckibbaadoor", sum := "6ac2f31b7778d1e13c7f9d21daa9d02aaec6af0c9a06444b4e84c3a6c9597301", func := "witting/wittinglaw01.WorldsetLists", spec := "worldsetLists", inPlace := ["internal/bytealg.CountString", "internal/bytealg.IndexByteString", "internal/bytealg.IndexString", "internal/abi.NoEscape"], named := ["math/bits.deBruijn64tab", "unicode/utf8.first", "unicode/utf8.acceptRanges", "internal/bytealg.MaxLen", "internal/strconv.uint64pow10", "math/bits.deBruijn32tab"], apart := false, laid := [("math/bits.deBruijn32tab", laid_math_bits_deBruijn32tab), ("math/bits.deBruijn64tab", laid_math_bits_deBruijn64tab), ("internal/strconv.uint64pow10", laid_internal_strconv_uint64pow10), ("unicode/utf8.acceptRanges", laid_unicode_utf8_acceptRanges), ("unicode/utf8.first", laid_unicode_utf8_first)], narrowed := true }
def WorldsetListsUptoSaid : Prop := worldsetListsUptoRow.holds Tryd.pinned (OpenSpec.upto worldsetListsSpec)

/-- 'wittinglaw01.WorldsetRenames', WHERE WHAT IT READS IS OF BULK AT MOST 1048576: true; the input reads as it did. -/
def worldsetRenamesUptoRow : OpenClaim := { program := "ytnkjcieeckibbaadoor", sum := "6ac2f31b7778d1e13c7f9d21daa9d02aaec6af0c9a06444b4e84c3a6c9597301", func := "witting/wittinglaw01.WorldsetRenames", spec := "worldsetRenames", inPlace := ["internal/bytealg.CountString", "internal/bytealg.IndexByteString", "internal/bytealg.IndexString", "internal/abi.NoEscape"], named := ["math/bits.deBruijn64tab", "unicode/utf8.first", "unicode/utf8.acceptRanges", "internal/bytealg.MaxLen", "internal/strconv.uint64pow10", "math/bits.deBruijn32tab"], apart := false, laid := [("math/bits.deBruijn32tab", laid_math_bits_deBruijn32tab), ("math/bits.deBruijn64tab", laid_math_bits_deBruijn64tab), ("internal/strconv.uint64pow10", laid_internal_strconv_uint64pow10), ("unicode/utf8.acceptRanges", laid_unicode_utf8_acceptRanges), ("unicode/utf8.first", laid_unicode_utf8_first)], narrowed := true }
def WorldsetRenamesUptoSaid : Prop := worldsetRenamesUptoRow.holds Tryd.pinned (OpenSpec.upto worldsetRenamesSpec)

/-- 'wittinglaw01.WorldsetSteps', WHERE WHAT IT READS IS OF BULK AT MOST 1048576: true; the input reads as it did. -/
def worldsetStepsUptoRow : OpenClaim := { program := "ytnkjcieeckibbaadoor", sum := "6ac2f31b7778d1e13c7f9d21daa9d02aaec6af0c9a06444b4e84c3a6c9597301", func := "witting/wittinglaw01.WorldsetSteps", spec := "worldsetSteps", inPlace := ["internal/bytealg.CountString", "internal/bytealg.IndexByteString", "internal/bytealg.IndexString", "internal/abi.NoEscape"], named := ["math/bits.deBruijn64tab", "unicode/utf8.first", "unicode/utf8.acceptRanges", "internal/bytealg.MaxLen", "internal/strconv.uint64pow10", "math/bits.deBruijn32tab"], apart := false, laid := [("math/bits.deBruijn32tab", laid_math_bits_deBruijn32tab), ("math/bits.deBruijn64tab", laid_math_bits_deBruijn64tab), ("internal/strconv.uint64pow10", laid_internal_strconv_uint64pow10), ("unicode/utf8.acceptRanges", laid_unicode_utf8_acceptRanges), ("unicode/utf8.first", laid_unicode_utf8_first)], narrowed := true }
def WorldsetStepsUptoSaid : Prop := worldsetStepsUptoRow.holds Tryd.pinned (OpenSpec.upto worldsetStepsSpec)

/-- 'wittinglaw01.WorldsetTexts', WHERE WHAT IT READS IS OF BULK AT MOST 1048576: true; the input reads as it did. -/
def worldsetTextsUptoRow : OpenClaim := { program := "ytnkjcieeckibbaadoor", sum := "6ac2f31b7778d1e13c7f9d21daa9d02aaec6af0c9a06444b4e84c3a6c9597301", func := "witting/wittinglaw01.WorldsetTexts", spec := "worldsetTexts", inPlace := ["internal/bytealg.CountString", "internal/bytealg.IndexByteString", "internal/bytealg.IndexString", "internal/abi.NoEscape"], named := ["math/bits.deBruijn64tab", "unicode/utf8.first", "unicode/utf8.acceptRanges", "internal/bytealg.MaxLen", "internal/strconv.uint64pow10", "math/bits.deBruijn32tab"], apart := false, laid := [("math/bits.deBruijn32tab", laid_math_bits_deBruijn32tab), ("math/bits.deBruijn64tab", laid_math_bits_deBruijn64tab), ("internal/strconv.uint64pow10", laid_internal_strconv_uint64pow10), ("unicode/utf8.acceptRanges", laid_unicode_utf8_acceptRanges), ("unicode/utf8.first", laid_unicode_utf8_first)], narrowed := true }
def WorldsetTextsUptoSaid : Prop := worldsetTextsUptoRow.holds Tryd.pinned (OpenSpec.upto worldsetTextsSpec)

/-- 'wittinglaw01.WorldsetRestores', WHERE WHAT IT READS IS OF BULK AT MOST 1048576: true; the input reads as it did. -/
def worldsetRestoresUptoRow : OpenClaim := { program := "ytnkjcieeckibbaadoor", sum := "6ac2f31b7778d1e13c7f9d21daa9d02aaec6af0c9a06444b4e84c3a6c9597301", func := "witting/wittinglaw01.WorldsetRestores", spec := "worldsetRestores", inPlace := ["internal/abi.NoEscape", "internal/bytealg.CountString", "internal/bytealg.IndexByteString", "internal/bytealg.IndexString"], named := ["math/bits.deBruijn64tab", "internal/strconv.uint64pow10", "math/bits.deBruijn32tab", "unicode/utf8.first", "unicode/utf8.acceptRanges", "internal/bytealg.MaxLen"], apart := false, laid := [("math/bits.deBruijn32tab", laid_math_bits_deBruijn32tab), ("math/bits.deBruijn64tab", laid_math_bits_deBruijn64tab), ("internal/strconv.uint64pow10", laid_internal_strconv_uint64pow10), ("unicode/utf8.acceptRanges", laid_unicode_utf8_acceptRanges), ("unicode/utf8.first", laid_unicode_utf8_first)], narrowed := true }
def WorldsetRestoresUptoSaid : Prop := worldsetRestoresUptoRow.holds Tryd.pinned (OpenSpec.upto worldsetRestoresSpec)

/-- 'wittinglaw01.WorldsetChoices', WHERE WHAT IT READS IS OF BULK AT MOST 1048576: true; the input reads as it did. -/
def worldsetChoicesUptoRow : OpenClaim := { program := "ytnkjcieeckibbaadoor", sum := "6ac2f31b7778d1e13c7f9d21daa9d02aaec6af0c9a06444b4e84c3a6c9597301", func := "witting/wittinglaw01.WorldsetChoices", spec := "worldsetChoices", inPlace := ["internal/bytealg.CountString", "internal/bytealg.IndexByteString", "internal/bytealg.IndexString", "internal/abi.NoEscape"], named := ["math/bits.deBruijn64tab", "unicode/utf8.first", "unicode/utf8.acceptRanges", "internal/bytealg.MaxLen", "internal/strconv.uint64pow10", "math/bits.deBruijn32tab"], apart := false, laid := [("math/bits.deBruijn32tab", laid_math_bits_deBruijn32tab), ("math/bits.deBruijn64tab", laid_math_bits_deBruijn64tab), ("internal/strconv.uint64pow10", laid_internal_strconv_uint64pow10), ("unicode/utf8.acceptRanges", laid_unicode_utf8_acceptRanges), ("unicode/utf8.first", laid_unicode_utf8_first)], narrowed := true }
def WorldsetChoicesUptoSaid : Prop := worldsetChoicesUptoRow.holds Tryd.pinned (OpenSpec.upto worldsetChoicesSpec)

/-- 'wittinglaw01.WorldsetSubsets', WHERE WHAT IT READS IS OF BULK AT MOST 1048576: true; the input reads as it did. -/
def worldsetSubsetsUptoRow : OpenClaim := { program := "ytnkjcieeckibbaadoor", sum := "6ac2f31b7778d1e13c7f9d21daa9d02aaec6af0c9a06444b4e84c3a6c9597301", func := "witting/wittinglaw01.WorldsetSubsets", spec := "worldsetSubsets", inPlace := ["internal/bytealg.CountString", "internal/bytealg.IndexByteString", "internal/bytealg.IndexString", "internal/abi.NoEscape"], named := ["math/bits.deBruijn64tab", "unicode/utf8.first", "unicode/utf8.acceptRanges", "internal/bytealg.MaxLen", "internal/strconv.uint64pow10", "math/bits.deBruijn32tab"], apart := false, laid := [("math/bits.deBruijn32tab", laid_math_bits_deBruijn32tab), ("math/bits.deBruijn64tab", laid_math_bits_deBruijn64tab), ("internal/strconv.uint64pow10", laid_internal_strconv_uint64pow10), ("unicode/utf8.acceptRanges", laid_unicode_utf8_acceptRanges), ("unicode/utf8.first", laid_unicode_utf8_first)], narrowed := true }
def WorldsetSubsetsUptoSaid : Prop := worldsetSubsetsUptoRow.holds Tryd.pinned (OpenSpec.upto worldsetSubsetsSpec)

/-- 'wittinglaw01.WorldsetPermutes', WHERE WHAT IT READS IS OF BULK AT MOST 1048576: true; the input reads as it did. -/
def worldsetPermutesUptoRow : OpenClaim := { program := "ytnkjcieeckibbaadoor", sum := "6ac2f31b7778d1e13c7f9d21daa9d02aaec6af0c9a06444b4e84c3a6c9597301", func := "witting/wittinglaw01.WorldsetPermutes", spec := "worldsetPermutes", inPlace := ["internal/bytealg.CountString", "internal/bytealg.IndexByteString", "internal/bytealg.IndexString", "internal/abi.NoEscape"], named := ["math/bits.deBruijn64tab", "unicode/utf8.first", "unicode/utf8.acceptRanges", "internal/bytealg.MaxLen", "internal/strconv.uint64pow10", "math/bits.deBruijn32tab"], apart := false, laid := [("math/bits.deBruijn32tab", laid_math_bits_deBruijn32tab), ("math/bits.deBruijn64tab", laid_math_bits_deBruijn64tab), ("internal/strconv.uint64pow10", laid_internal_strconv_uint64pow10), ("unicode/utf8.acceptRanges", laid_unicode_utf8_acceptRanges), ("unicode/utf8.first", laid_unicode_utf8_first)], narrowed := true }
def WorldsetPermutesUptoSaid : Prop := worldsetPermutesUptoRow.holds Tryd.pinned (OpenSpec.upto worldsetPermutesSpec)

/-- 'wittinglaw02.RelationChecks', WHERE WHAT IT READS IS OF BULK AT MOST 1048576: true; the input reads as it did. -/
def relationChecksUptoRow : OpenClaim := { program := "ytnkjcieeckibbaadoor", sum := "6ac2f31b7778d1e13c7f9d21daa9d02aaec6af0c9a06444b4e84c3a6c9597301", func := "witting/wittinglaw02.RelationChecks", spec := "relationChecks", unfollowed := true, recurses := true, named := ["math/bits.deBruijn64tab"], apart := false, laid := [("math/bits.deBruijn64tab", laid_math_bits_deBruijn64tab)], narrowed := true }
def RelationChecksUptoSaid : Prop := relationChecksUptoRow.holds Tryd.pinned (OpenSpec.upto relationChecksSpec)

/-- 'wittinglaw02.RelationJoins', WHERE WHAT IT READS IS OF BULK AT MOST 1048576: true; the input reads as it did. -/
def relationJoinsUptoRow : OpenClaim := { program := "ytnkjcieeckibbaadoor", sum := "6ac2f31b7778d1e13c7f9d21daa9d02aaec6af0c9a06444b4e84c3a6c9597301", func := "witting/wittinglaw02.RelationJoins", spec := "relationJoins", unfollowed := true, recurses := true, named := ["math/bits.deBruijn64tab"], apart := false, laid := [("math/bits.deBruijn64tab", laid_math_bits_deBruijn64tab)], narrowed := true }
def RelationJoinsUptoSaid : Prop := relationJoinsUptoRow.holds Tryd.pinned (OpenSpec.upto relationJoinsSpec)

/-- 'wittinglaw02.RelationCloses', WHERE WHAT IT READS IS OF BULK AT MOST 1048576: true; the input reads as it did. -/
def relationClosesUptoRow : OpenClaim := { program := "ytnkjcieeckibbaadoor", sum := "6ac2f31b7778d1e13c7f9d21daa9d02aaec6af0c9a06444b4e84c3a6c9597301", func := "witting/wittinglaw02.RelationCloses", spec := "relationCloses", unfollowed := true, recurses := true, named := ["math/bits.deBruijn64tab"], apart := false, laid := [("math/bits.deBruijn64tab", laid_math_bits_deBruijn64tab)], narrowed := true }
def RelationClosesUptoSaid : Prop := relationClosesUptoRow.holds Tryd.pinned (OpenSpec.upto relationClosesSpec)

/-- 'wittinglaw02.RelationLooks', WHERE WHAT IT READS IS OF BULK AT MOST 1048576: true; the input reads as it did. -/
def relationLooksUptoRow : OpenClaim := { program := "ytnkjcieeckibbaadoor", sum := "6ac2f31b7778d1e13c7f9d21daa9d02aaec6af0c9a06444b4e84c3a6c9597301", func := "witting/wittinglaw02.RelationLooks", spec := "relationLooks", unfollowed := true, recurses := true, named := ["math/bits.deBruijn64tab"], apart := false, laid := [("math/bits.deBruijn64tab", laid_math_bits_deBruijn64tab)], narrowed := true }
def RelationLooksUptoSaid : Prop := relationLooksUptoRow.holds Tryd.pinned (OpenSpec.upto relationLooksSpec)

end Rows
end Go.Proofs.YtnkjcieeckibbaaDoor
