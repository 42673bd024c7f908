/- Layer 9: what the rows list, and what it gives the walks; a list of nodes that came in. -/
import Derived.Test.YtcdmchaehafijaaDoorNIa
import Derived.Test.YtcdmchaehafijaaDoorNJl
import Derived.Test.YtcdmchaehafijaaDoorNRa
import Derived.Test.YtcdmchaehafijaaDoorCards
import Derived.Test.YtcdmchaehafijaaDoorTie
import Derived.ProofKit
import Derived.OpenShut
import Derived.LaidMore
import Derived.Lay
import Derived.Lib.LaidU8
import Derived.Lib.SmallJoins
import Derived.SliceStrings
import Derived.Shelf.Vars
import Derived.Deep.DeepHandedRow
import Derived.Deep.DeepWitnessRowRef
import Derived.SevenTiedAt
import Derived.Deep.Slices
import Derived.Deep.Fields
import Derived.ChangeSame
namespace Go.Proofs.YtcdmchaehafijaaDoor.bol
open Go.ChangeShapes Go.WideShapes Go.ChangeAt Go.RowKit Go.Proofs.Ws Go.Deep
set_option maxRecDepth 100000
def LL9 : List (String × DataW Unit) := Rows.booleanBackRow.laid
theorem own : ownKnob Tryd.prog.godebug = none := by kernel_rfl
theorem lt_of_cell {W : World} (a : Addr) (v : Value) (hv : W.cell? a = some v) : a.block < W.heap.size := by
  rcases Nat.lt_or_ge a.block W.heap.size with h' | h'
  · exact h'
  · simp [World.cell?, Array.getElem?_eq_none h'] at hv
def colsD : List Int := [12297829382473034410, 14757395258967641292, 17361641481138401520, 18374966859414961920, 18446462603027742720, 18446744069414584320]
theorem colsD_eq : (Rows.laid_witting_boolean_columns : DataW Unit) = .agg (colsD.map (fun k => .lit (.int .u64 k))) := by kernel_rfl
theorem words_of {W : World} {name : String} {g : Nat} {l : List Int} (hg : Tryd.prog.globalNamed name = some g) (ht : (Tryd.prog.globals[g]?).map (·.type) = some 62) (hl6 : l.length = 6)
    (h : Lib.VarReads Tryd.prog W name (.agg (l.map (fun k => .lit (.int .u64 k))))) : ∀ k, k < 6 → W.cell? ⟨g, k, none⟩ = some (.int .u64 (l.getD k 0)) := by
  obtain ⟨g', t, cs, fuel, p, h1, h2, h3, h4⟩ := h
  obtain rfl := Option.some.inj (hg.symm.trans h1)
  obtain rfl := Option.some.inj (ht.symm.trans h2)
  have hcell := World.var?_cell hg h3
  obtain ⟨xs, m, rfl, hx, hl, hxl, hf⟩ := DataW.trod_array Tryd.underlying62 h4
  have hc : Tryd.prog.cellsOf 22 = 1 := by kernel_rfl
  have hc22 : Tryd.prog.cellsOf 62 = 6 := by kernel_rfl
  rw [hc] at hf
  rw [hc22] at hl
  simp only [Prod.mk.injEq, DataW.agg.injEq] at hx
  intro k hk
  have hfi := hf k hk
  rw [Nat.mul_one, List.drop_eq_getElem_cons (by omega), List.take_succ_cons, List.take_zero, List.getElem?_eq_getElem (by omega)] at hfi
  obtain ⟨z, hz, hz2, _⟩ := DataW.trod_int Tryd.underlying22 hfi
  have hd : (xs.map (·.1))[k]? = some (xs[k]).1 := by rw [List.getElem?_map, List.getElem?_eq_getElem (by omega)]; rfl
  rw [← hx.1, List.getElem?_map, List.getElem?_eq_getElem (by omega)] at hd
  simp only [Option.map_some, Option.some.injEq] at hd
  rw [hz2] at hd
  simp only [DataW.lit.injEq, Lit.int.injEq, true_and] at hd
  have h0 := hcell k
  rw [← Array.getElem?_toList, List.getElem?_eq_getElem (by omega)] at h0
  injection hz with hz
  have e : l.getD k 0 = z := by rw [List.getD_eq_getElem?_getD, List.getElem?_eq_getElem (by omega)]; exact hd
  rw [e, ← hz]
  exact h0
def opsD : List Int := [0, 0, 0, 0, 1, 2, 2, 2, 2, 1, 1, 1, 1, 2, 2, 1, 2, 1, 1, 2, 1, 2]
theorem opsD_eq : (Rows.laid_witting_rewrite_operands : DataW Unit) = .agg (opsD.map (fun k => .lit (.int .i64 k))) := by kernel_rfl
theorem ints_of {W : World} {name : String} {g : Nat} {l : List Int} (hg : Tryd.prog.globalNamed name = some g) (ht : (Tryd.prog.globals[g]?).map (·.type) = some 96) (hl22 : l.length = 22)
    (h : Lib.VarReads Tryd.prog W name (.agg (l.map (fun k => .lit (.int .i64 k))))) : ∀ k, k < 22 → W.cell? ⟨g, k, none⟩ = some (.int .i64 (l.getD k 0)) := by
  obtain ⟨g', t, cs, fuel, p, h1, h2, h3, h4⟩ := h
  obtain rfl := Option.some.inj (hg.symm.trans h1)
  obtain rfl := Option.some.inj (ht.symm.trans h2)
  have hcell := World.var?_cell hg h3
  obtain ⟨xs, m, rfl, hx, hl, hxl, hf⟩ := DataW.trod_array Tryd.underlying96 h4
  have hc : Tryd.prog.cellsOf 3 = 1 := by kernel_rfl
  have hc22 : Tryd.prog.cellsOf 96 = 22 := by kernel_rfl
  rw [hc] at hf
  rw [hc22] at hl
  simp only [Prod.mk.injEq, DataW.agg.injEq] at hx
  intro k hk
  have hfi := hf k hk
  rw [Nat.mul_one, List.drop_eq_getElem_cons (by omega), List.take_succ_cons, List.take_zero, List.getElem?_eq_getElem (by omega)] at hfi
  obtain ⟨z, hz, hz2, _⟩ := DataW.trod_int Tryd.underlying3 hfi
  have hd : (xs.map (·.1))[k]? = some (xs[k]).1 := by rw [List.getElem?_map, List.getElem?_eq_getElem (by omega)]; rfl
  rw [← hx.1, List.getElem?_map, List.getElem?_eq_getElem (by omega)] at hd
  simp only [Option.map_some, Option.some.injEq] at hd
  rw [hz2] at hd
  simp only [DataW.lit.injEq, Lit.int.injEq, true_and] at hd
  have h0 := hcell k
  rw [← Array.getElem?_toList, List.getElem?_eq_getElem (by omega)] at h0
  injection hz with hz
  have e : l.getD k 0 = z := by rw [List.getD_eq_getElem?_getD, List.getElem?_eq_getElem (by omega)]; exact hd
  rw [e, ← hz]
  exact h0
theorem env_of {W : World} (h : laidMetH Tryd.prog LL9 W) : EnvB W W.heap.size ∧ EnvR W W.heap.size := by
  rw [MakeChecks.laidMetH_plain _ _ _ (by kernel_rfl)] at h
  have m0 : ("witting/rewrite.operands", (Rows.laid_witting_rewrite_operands : DataW Unit)) ∈ LL9 := by
    show _ ∈ [("witting/rewrite.operands", Rows.laid_witting_rewrite_operands), ("witting/boolean.columns", Rows.laid_witting_boolean_columns)]
    exact .head _
  have m1 : ("witting/boolean.columns", (Rows.laid_witting_boolean_columns : DataW Unit)) ∈ LL9 := by
    show _ ∈ [("witting/rewrite.operands", Rows.laid_witting_rewrite_operands), ("witting/boolean.columns", Rows.laid_witting_boolean_columns)]
    exact .tail _ (.head _)
  have r0 := Lib.laidMet.reads h m0
  have r1 := Lib.laidMet.reads h m1
  rw [opsD_eq] at r0
  rw [colsD_eq] at r1
  have c0 := ints_of (g := 1) (by kernel_rfl) (by kernel_rfl) rfl r0
  have c1 := words_of (g := 0) (by kernel_rfl) (by kernel_rfl) rfl r1
  have e0 : ∀ k : Nat, k < 22 → opsD.getD k 0 = shO (k : Int) := by decide
  have e1 : ∀ k : Nat, k < 6 → colsD.getD k 0 = ((colN k : Nat) : Int) := by decide
  exact ⟨⟨fun k hk => by rw [c1 k hk, e1 k hk], lt_of_cell ⟨0, 0, none⟩ _ (c1 0 (by omega))⟩,
    ⟨fun k hk => by rw [c0 k hk, e0 k hk], lt_of_cell ⟨1, 0, none⟩ _ (c0 0 (by omega))⟩⟩
noncomputable def laidW (os : Os) : World := World.laidAll Tryd.prog os LL9
theorem laidW_os (os : Os) : (laidW os).os = os := World.laidAll_os _ _ _
theorem laid_met (os : Os) (args : Array Value) : laidMet Tryd.prog LL9 ((laidW os).forCall (fun _ _ => 0) ⟨#[], args, []⟩).memory :=
  laidMet_laidAll _ (by kernel_rfl) (by kernel_rfl)
theorem vars_ok (os : Os) (args : Array Value) : ((laidW os).forCall (fun _ _ => 0) ⟨#[], args, []⟩).variablesRefB Tryd.prog = true := by kernel_rfl
theorem heap_ok (os : Os) (args : Array Value) : (((laidW os).forCall (fun _ _ => 0) ⟨#[], args, []⟩).heap.toList.drop Tryd.prog.globals.size).take ((begin Tryd.prog (fun _ _ => 0) default).world.heap.size - Tryd.prog.globals.size) =
      (begin Tryd.prog (fun _ _ => 0) default).world.heap.toList.drop Tryd.prog.globals.size := by kernel_rfl
theorem no_looks : false = Tryd.pinned.checked.prog.looks [] := by kernel_rfl
section
variable {H : Type} {enc : TypeId × Value → H} {w : World} {base : Nat} {spare : Nat → Bool} {held : Bool}
end
end Go.Proofs.YtcdmchaehafijaaDoor.bol
