/- Layer 9: what the rows list, and what it gives the walks; a list of nodes that came in. -/
import Derived.Test.YtopkmcoblndokaaDoorNVl
import Derived.Test.YtopkmcoblndokaaDoorNVn
import Derived.Test.YtopkmcoblndokaaDoorCards
import Derived.Test.YtopkmcoblndokaaDoorTie
import Derived.ProofKit
import Derived.OpenShut
import Derived.LaidMore
import Derived.Lay
import Derived.Lib.LaidU8
import Derived.Lib.SmallJoins
import Derived.SliceStrings
import Derived.Shelf.Vars
import Derived.Deep.DeepHandedRow
import Derived.Deep.DeepWitnessRowRef
import Derived.SevenTiedAt
import Derived.Deep.Slices
import Derived.Deep.Fields
import Derived.ChangeSame
namespace Go.Proofs.YtopkmcoblndokaaDoor.bol
open Go.ChangeShapes Go.WideShapes Go.ChangeAt Go.RowKit Go.Proofs.Ws Go.Deep
set_option maxRecDepth 100000
def LL9 : List (String × DataW Unit) := Rows.resolutionTablesRow.laid
theorem own : ownKnob Tryd.prog.godebug = none := by kernel_rfl
theorem laidOut : laidOutB Tryd.prog = true := by kernel_rfl
theorem lt_of_cell {W : World} (a : Addr) (v : Value) (hv : W.cell? a = some v) : a.block < W.heap.size := by
  rcases Nat.lt_or_ge a.block W.heap.size with h' | h'
  · exact h'
  · simp [World.cell?, Array.getElem?_eq_none h'] at hv
def colsD : List Int := [12297829382473034410, 14757395258967641292, 17361641481138401520, 18374966859414961920, 18446462603027742720, 18446744069414584320]
theorem colsD_eq : (Rows.laid_witting_boolean_columns : DataW Unit) = .agg (colsD.map (fun k => .lit (.int .u64 k))) := by kernel_rfl
theorem words_of {W : World} {name : String} {g : Nat} {l : List Int} (hg : Tryd.prog.globalNamed name = some g) (ht : (Tryd.prog.globals[g]?).map (·.type) = some 56) (hl6 : l.length = 6)
    (h : Lib.VarReads Tryd.prog W name (.agg (l.map (fun k => .lit (.int .u64 k))))) : ∀ k, k < 6 → W.cell? ⟨g, k, none⟩ = some (.int .u64 (l.getD k 0)) := by
  obtain ⟨g', t, cs, fuel, p, h1, h2, h3, h4⟩ := h
  obtain rfl := Option.some.inj (hg.symm.trans h1)
  obtain rfl := Option.some.inj (ht.symm.trans h2)
  have hcell := World.var?_cell hg h3
  obtain ⟨xs, m, rfl, hx, hl, hxl, hf⟩ := DataW.trod_array Tryd.underlying56 h4
  have hc : Tryd.prog.cellsOf 27 = 1 := by kernel_rfl
  have hc22 : Tryd.prog.cellsOf 56 = 6 := by kernel_rfl
  rw [hc] at hf
  rw [hc22] at hl
  simp only [Prod.mk.injEq, DataW.agg.injEq] at hx
  intro k hk
  have hfi := hf k hk
  rw [Nat.mul_one, List.drop_eq_getElem_cons (by omega), List.take_succ_cons, List.take_zero, List.getElem?_eq_getElem (by omega)] at hfi
  obtain ⟨z, hz, hz2, _⟩ := DataW.trod_int Tryd.underlying27 hfi
  have hd : (xs.map (·.1))[k]? = some (xs[k]).1 := by rw [List.getElem?_map, List.getElem?_eq_getElem (by omega)]; rfl
  rw [← hx.1, List.getElem?_map, List.getElem?_eq_getElem (by omega)] at hd
  simp only [Option.map_some, Option.some.injEq] at hd
  rw [hz2] at hd
  simp only [DataW.lit.injEq, Lit.int.injEq, true_and] at hd
  have h0 := hcell k
  rw [← Array.getElem?_toList, List.getElem?_eq_getElem (by omega)] at h0
  injection hz with hz
  have e : l.getD k 0 = z := by rw [List.getD_eq_getElem?_getD, List.getElem?_eq_getElem (by omega)]; exact hd
  rw [e, ← hz]
  exact h0
theorem env_of {W : World} (h : laidMetH Tryd.prog LL9 W) : EnvB W W.heap.size := by
  rw [MakeChecks.laidMetH_plain _ _ _ (by kernel_rfl)] at h
  have m1 : ("witting/boolean.columns", (Rows.laid_witting_boolean_columns : DataW Unit)) ∈ LL9 := by
    show _ ∈ [("witting/boolean.columns", Rows.laid_witting_boolean_columns)]
    exact .head _
  have r1 := Lib.laidMet.reads h m1
  rw [colsD_eq] at r1
  have c1 := words_of (g := 0) (by kernel_rfl) (by kernel_rfl) rfl r1
  have e1 : ∀ k : Nat, k < 6 → colsD.getD k 0 = ((colN k : Nat) : Int) := by decide
  exact ⟨fun k hk => by rw [c1 k hk, e1 k hk], lt_of_cell ⟨0, 0, none⟩ _ (c1 0 (by omega))⟩
noncomputable def laidW (os : Os) : World := World.laidAll Tryd.prog os LL9
theorem laidW_os (os : Os) : (laidW os).os = os := World.laidAll_os _ _ _
theorem laid_met (os : Os) (args : Array Value) : laidMet Tryd.prog LL9 ((laidW os).forCall (fun _ _ => 0) ⟨#[], args, []⟩).memory :=
  laidMet_laidAll _ (by kernel_rfl) (by kernel_rfl)
theorem vars_ok (os : Os) (args : Array Value) : ((laidW os).forCall (fun _ _ => 0) ⟨#[], args, []⟩).variablesRefB Tryd.prog = true := by kernel_rfl
theorem heap_ok (os : Os) (args : Array Value) : (((laidW os).forCall (fun _ _ => 0) ⟨#[], args, []⟩).heap.toList.drop Tryd.prog.globals.size).take ((begin Tryd.prog (fun _ _ => 0) default).world.heap.size - Tryd.prog.globals.size) =
      (begin Tryd.prog (fun _ _ => 0) default).world.heap.toList.drop Tryd.prog.globals.size := by kernel_rfl
theorem no_looks : false = Tryd.pinned.checked.prog.looks [] := by kernel_rfl
/-- what the row's opening says of a slice of nodes: it is nil, or its first elements are nodes -/
def NdRow (w : World) (a : Option Addr) (len cap : Nat) (l : List Nd) : Prop :=
  Reads w w.heap.size 6 a len (nds l) ∧ (∀ n ∈ l, NdW n) ∧ len ≤ cap ∧ len ≤ maxLen
section
variable {H : Type} {enc : TypeId × Value → H} {w : World} {base : Nat} {spare : Nat → Bool} {held : Bool}
theorem field_int {n' : Nat} {cs : List Value} {xs : List (DataW H × List MemPlace)} {j : Nat} (hl : cs.length = 6) (hj : j < 6) (hx : j < xs.length)
    (h : DataW.trod enc Tryd.prog w base spare held n' 3 ((cs.drop j).take (Tryd.prog.cellsOf 3)) = xs[j]?) : ∃ z : Int, cs[j]? = some (.int .i64 z) ∧ (Lit.int .i64 z).wf = true := by
  rw [intCells, List.drop_eq_getElem_cons (by omega), List.take_succ_cons, List.take_zero, List.getElem?_eq_getElem hx] at h
  obtain ⟨z, hz, _, hw⟩ := DataW.trod_int Tryd.underlying3 h
  refine ⟨z, ?_, hw⟩
  rw [List.getElem?_eq_getElem (by omega)]
  injection hz with hz
  rw [hz]
set_option maxRecDepth 100000 in
theorem one_node {n' : Nat} {cs : List Value} {x : DataW H × List MemPlace} (h : DataW.trod enc Tryd.prog w base spare held n' 55 cs = some x) : ∃ n : Nd, cs = ndC n ∧ NdW n := by
  obtain ⟨xs, m, _, _, hl, hxl, hf⟩ := DataW.trod_struct Tryd.underlying55 h
  rw [nodeCells] at hl
  have hx6 : xs.length = 6 := hxl
  obtain ⟨z0, c0, w0⟩ := field_int (j := 0) hl (by decide) (by omega) (hf 0 _ rfl)
  obtain ⟨z1, c1, w1⟩ := field_int (j := 1) hl (by decide) (by omega) (hf 1 _ rfl)
  obtain ⟨z2, c2, w2⟩ := field_int (j := 2) hl (by decide) (by omega) (hf 2 _ rfl)
  obtain ⟨z3, c3, w3⟩ := field_int (j := 3) hl (by decide) (by omega) (hf 3 _ rfl)
  obtain ⟨z4, c4, w4⟩ := field_int (j := 4) hl (by decide) (by omega) (hf 4 _ rfl)
  obtain ⟨z5, c5, w5⟩ := field_int (j := 5) hl (by decide) (by omega) (hf 5 _ rfl)
  refine ⟨⟨z0, z1, z2, z3, z4, z5⟩, ?_, ⟨w0, w1, w2, w3, w4, w5⟩⟩
  match cs, hl with
  | [a, b, c, d, e, f], _ =>
    simp at c0 c1 c2 c3 c4 c5
    simp [ndC, c0, c1, c2, c3, c4, c5]
theorem open_nodes {fuel : Nat} {A : Option Addr} {n c : Nat} {x : DataW H × List MemPlace} (h : DataW.trod enc Tryd.prog w base spare held fuel 22 [.slice A n c] = some x) : ∃ l, NdRow w A n c l := by
  rcases open_slice Tryd.underlying22 h with ⟨hcs, _⟩ | ⟨a, len, cap, m, n', D, Pl, hcs, hb, hl, hm, hmm, _, hi⟩
  · simp at hcs
    obtain ⟨rfl, rfl, rfl⟩ := hcs
    exact ⟨[], Reads.none_, fun n hn => absurd hn (by simp), Nat.le_refl _, Nat.zero_le _⟩
  · simp at hcs
    obtain ⟨rfl, rfl, rfl⟩ := hcs
    have hlm : n ≤ m := by rw [hmm]; split <;> omega
    have hex : ∀ i, i < n → ∃ nd : Nd, (∀ j, j < 6 → w.cell? (a.add (i * 6 + j)) = (ndC nd)[j]?) ∧ NdW nd := fun i hin => by
      obtain ⟨cs', h1, h2⟩ := hi i (by omega)
      obtain ⟨nd, hc, hw⟩ := one_node h2
      obtain ⟨_, _, h3⟩ := World.cells?_some h1
      rw [nodeCells] at h3
      refine ⟨nd, fun j hj => ?_, hw⟩
      have := h3 j hj
      rw [add_of_add, hc] at this
      exact this
    obtain ⟨g, hg⟩ : ∃ g : Nat → Nd, ∀ i, i < n → (∀ j, j < 6 → w.cell? (a.add (i * 6 + j)) = (ndC (g i))[j]?) ∧ NdW (g i) :=
      ⟨fun i => if hi : i < n then Classical.choose (hex i hi) else nd0, fun i hin => by dsimp only; rw [dif_pos hin]; exact Classical.choose_spec (hex i hin)⟩
    refine ⟨(List.range n).map g, ⟨by rw [nds_length]; simp, fun h0 => ⟨a, rfl, ?_, fun j u hu => ?_⟩⟩, fun nd hn => ?_, hl, by omega⟩
    · have h1 := (hg 0 h0).1 0 (by decide)
      rw [show (0 : Nat) * 6 + 0 = 0 from rfl] at h1
      rcases Nat.lt_or_ge (a.add 0).block w.heap.size with h' | h'
      · rwa [block_of_add] at h'
      · simp [World.cell?, Array.getElem?_eq_none h', ndC] at h1
    · have hj : j < n * 6 := by
        have := (List.getElem?_eq_some_iff.1 hu).1
        rw [nds_length] at this
        simpa using this
      have hq := nds_at ((List.range n).map g) (j / 6) (j % 6) (by simp; omega) (by omega)
      rw [show j / 6 * 6 + j % 6 = j from by omega] at hq
      have hgd : ((List.range n).map g).getD (j / 6) nd0 = g (j / 6) := by simp [show j / 6 < n by omega]
      rw [hgd] at hq
      rw [hu] at hq
      have h1 := (hg (j / 6) (by omega)).1 (j % 6) (by omega)
      rw [show j / 6 * 6 + j % 6 = j from by omega] at h1
      rw [h1, ← hq]
    · obtain ⟨i, hin, rfl⟩ := List.mem_map.1 hn
      exact (hg i (List.mem_range.1 hin)).2
end
end Go.Proofs.YtopkmcoblndokaaDoor.bol
