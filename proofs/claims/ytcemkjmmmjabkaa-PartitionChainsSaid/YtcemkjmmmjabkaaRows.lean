/-
  No cell of these rows narrows 'for every input' (looked for: loops, veiled, ifaces, maps, wideKeys, modest, calm, conditions, laid).
  DERIVED. THE GIVEN ROWS OF THIS SEAT. 3 by the template 'for every input the law returns true; each argument reads behind the call as it read before'; 0 by the template 'total and deterministic' (their statements: YtcemkjmmmjabkaaTotals.lean).
  GIVEN WITH THE SEED: the statements are not yours to turn. If you find one false, say at which input.
  Laid BY PROGRAM, IN A SANDBOX (cutbox-rows.mjs): the forced cells as the released guide's own fill.sh prints them over the translation fdaa7719eb3e3df4… (all of the seat's roots in one cut). By AI agents, Wed Nov 11 2026. No macro, syntax, notation, axiom, sorry.
-/
import Derived.Test.YtcemkjmmmjabkaaChecked
import GoSem.Claim
import GoSem.ClaimJoined
import GoSem.ClaimMapViews
import Derived.JoinedTies
import Derived.KernelRfl
namespace Go.Proofs.Ytcemkjmmmjabkaa
/- THE CELL 'sum', in the pinned program and in every row, IS THE sha256 OF THE DUMP (.gsa) THAT YtcemkjmmmjabkaaProg.lean LOADS. Nothing in Lean hashes anything: it is a label: what it is worth is what the hold of that sum in a sandbox is worth. -/
noncomputable def Try.pinned : Pinned := { name := "ytcemkjmmmjabkaa", sum := "fdaa7719eb3e3df47cfa355a2f4569044daa6d52be1898e042a79365c8f70455", checked := Try.checked }
namespace Rows
def none {H : Type} : Left H := { results := [], args := [] }

/-- 'wittinglaw03.PartitionLattice': WHATEVER THE INPUT: true; the input reads as it did. -/
def partitionLatticeSpec : ChangeSpec := { name := "partitionLattice", fn := fun _ => fun
  | [d1, d2, d3] => { results := [.lit (.bool true)], args := [d1, d2, d3] }
  | _ => none }
def partitionLatticeRow : OpenClaim := { program := "ytcemkjmmmjabkaa", sum := "fdaa7719eb3e3df47cfa355a2f4569044daa6d52be1898e042a79365c8f70455", func := "witting/wittinglaw03.PartitionLattice", spec := "partitionLattice", unfollowed := true, recurses := true, plainKeys := false, apart := false }
def PartitionLatticeSaid : Prop := partitionLatticeRow.holds Try.pinned (OpenSpec.ofChange partitionLatticeSpec)

/-- ITS FALSE NEIGHBOUR: 'it returns false'. Refute it at one input. -/
def partitionLatticeWrong : ChangeSpec := { name := "partitionLattice", fn := fun _ => fun
  | [d1, d2, d3] => { results := [.lit (.bool false)], args := [d1, d2, d3] }
  | _ => none }
def PartitionLatticeWrongFalsely : Prop := partitionLatticeRow.holds Try.pinned (OpenSpec.ofChange partitionLatticeWrong)

/-- 'wittinglaw03.PartitionOrder': WHATEVER THE INPUT: true; the input reads as it did. -/
def partitionOrderSpec : ChangeSpec := { name := "partitionOrder", fn := fun _ => fun
  | [d1, d2] => { results := [.lit (.bool true)], args := [d1, d2] }
  | _ => none }
def partitionOrderRow : OpenClaim := { program := "ytcemkjmmmjabkaa", sum := "fdaa7719eb3e3df47cfa355a2f4569044daa6d52be1898e042a79365c8f70455", func := "witting/wittinglaw03.PartitionOrder", spec := "partitionOrder", unfollowed := true, recurses := true, plainKeys := false, apart := false }
def PartitionOrderSaid : Prop := partitionOrderRow.holds Try.pinned (OpenSpec.ofChange partitionOrderSpec)

/-- ITS FALSE NEIGHBOUR: 'it returns false'. Refute it at one input. -/
def partitionOrderWrong : ChangeSpec := { name := "partitionOrder", fn := fun _ => fun
  | [d1, d2] => { results := [.lit (.bool false)], args := [d1, d2] }
  | _ => none }
def PartitionOrderWrongFalsely : Prop := partitionOrderRow.holds Try.pinned (OpenSpec.ofChange partitionOrderWrong)

/-- 'wittinglaw03.PartitionChains': WHATEVER THE INPUT: true; the input reads as it did. -/
def partitionChainsSpec : ChangeSpec := { name := "partitionChains", fn := fun _ => fun
  | [d1, d2] => { results := [.lit (.bool true)], args := [d1, d2] }
  | _ => none }
def partitionChainsRow : OpenClaim := { program := "ytcemkjmmmjabkaa", sum := "fdaa7719eb3e3df47cfa355a2f4569044daa6d52be1898e042a79365c8f70455", func := "witting/wittinglaw03.PartitionChains", spec := "partitionChains", unfollowed := true, recurses := true, plainKeys := false, apart := false }
def PartitionChainsSaid : Prop := partitionChainsRow.holds Try.pinned (OpenSpec.ofChange partitionChainsSpec)

/-- ITS FALSE NEIGHBOUR: 'it returns false'. Refute it at one input. -/
def partitionChainsWrong : ChangeSpec := { name := "partitionChains", fn := fun _ => fun
  | [d1, d2] => { results := [.lit (.bool false)], args := [d1, d2] }
  | _ => none }
def PartitionChainsWrongFalsely : Prop := partitionChainsRow.holds Try.pinned (OpenSpec.ofChange partitionChainsWrong)

/- THE SECOND FORM. 'bulk': how many values and letters a reading holds, each counted each time it is reached (what is shared counts as often as it is met; a slice's spare places count too). A statement '..UptoSaid' is the law's where the arguments, and the package variables that the reading takes, are together of bulk at most 1048576: NARROWER than '..Said'. Prove '..Said' where nothing that the law and all that it calls make is longer than what came in: it says more and counts as full. Else prove '..UptoSaid'. A law counts once. -/
mutual
def uptoBulk {H : Type} : DataW H → Nat
  | .lit (.string bytes) => bytes.length + 1
  | .lit _ => 1
  | .nil => 1
  | .ptr d => uptoBulk d + 1
  | .slice elems spare => uptoBulkAll elems + uptoBulkAll spare + 1
  | .agg parts => uptoBulkAll parts + 1
  | .iface _ d => uptoBulk d + 1
  | .map entries => uptoBulkEntries entries + 1
  | .held _ => 1
def uptoBulkAll {H : Type} : List (DataW H) → Nat
  | [] => 0
  | d :: r => uptoBulk d + uptoBulkAll r
def uptoBulkEntries {H : Type} : List (Lit × DataW H) → Nat
  | [] => 0
  | x :: r => uptoBulkEntry x + uptoBulkEntries r
def uptoBulkEntry {H : Type} : Lit × DataW H → Nat
  | (.string bytes, d) => bytes.length + uptoBulk d + 1
  | (_, d) => uptoBulk d + 1
 end
def uptoSmall : (H : Type) → List (DataW H) → Bool := fun _ ds => decide (uptoBulkAll ds ≤ 1048576)
def OpenSpec.upto (s : _root_.Go.ChangeSpec) : _root_.Go.OpenSpec := { _root_.Go.OpenSpec.ofChange s with cond := some uptoSmall }

/-- 'wittinglaw03.PartitionLattice', WHERE WHAT IT READS IS OF BULK AT MOST 1048576: true; the input reads as it did. -/
def partitionLatticeUptoRow : OpenClaim := { program := "ytcemkjmmmjabkaa", sum := "fdaa7719eb3e3df47cfa355a2f4569044daa6d52be1898e042a79365c8f70455", func := "witting/wittinglaw03.PartitionLattice", spec := "partitionLattice", unfollowed := true, recurses := true, plainKeys := false, apart := false, narrowed := true }
def PartitionLatticeUptoSaid : Prop := partitionLatticeUptoRow.holds Try.pinned (OpenSpec.upto partitionLatticeSpec)

/-- 'wittinglaw03.PartitionOrder', WHERE WHAT IT READS IS OF BULK AT MOST 1048576: true; the input reads as it did. -/
def partitionOrderUptoRow : OpenClaim := { program := "ytcemkjmmmjabkaa", sum := "fdaa7719eb3e3df47cfa355a2f4569044daa6d52be1898e042a79365c8f70455", func := "witting/wittinglaw03.PartitionOrder", spec := "partitionOrder", unfollowed := true, recurses := true, plainKeys := false, apart := false, narrowed := true }
def PartitionOrderUptoSaid : Prop := partitionOrderUptoRow.holds Try.pinned (OpenSpec.upto partitionOrderSpec)

/-- 'wittinglaw03.PartitionChains', WHERE WHAT IT READS IS OF BULK AT MOST 1048576: true; the input reads as it did. -/
def partitionChainsUptoRow : OpenClaim := { program := "ytcemkjmmmjabkaa", sum := "fdaa7719eb3e3df47cfa355a2f4569044daa6d52be1898e042a79365c8f70455", func := "witting/wittinglaw03.PartitionChains", spec := "partitionChains", unfollowed := true, recurses := true, plainKeys := false, apart := false, narrowed := true }
def PartitionChainsUptoSaid : Prop := partitionChainsUptoRow.holds Try.pinned (OpenSpec.upto partitionChainsSpec)

end Rows
end Go.Proofs.Ytcemkjmmmjabkaa
