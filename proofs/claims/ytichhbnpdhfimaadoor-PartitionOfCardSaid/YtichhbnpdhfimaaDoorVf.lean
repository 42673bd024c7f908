/- What the row of PartitionOf lists, and what it gives the walks: the table of trailing zeros, the list of points; a world that holds them, for the witness; a list of words that came in. -/
import Derived.Test.YtichhbnpdhfimaaDoorVe
import Derived.Test.YtichhbnpdhfimaaDoorCards
import Derived.Test.YtichhbnpdhfimaaDoorTie
import Derived.ProofKit
import Derived.OpenShut
import Derived.LaidMore
import Derived.Lay
import Derived.Lib.LaidTab
import Derived.Lib.LaidU8
import Derived.Shelf.Vars
import Derived.Deep.DeepHandedRow
import Derived.Deep.DeepWitnessRowRef
import Derived.SevenTiedAt
namespace Go.Proofs.YtichhbnpdhfimaaDoor.pof
open Go.ChangeShapes Go.WideShapes Go.ChangeAt Go.RowKit Go.Proofs.Ws
def LL : List (String × DataW Unit) := Rows.partitionOfRow.laid
theorem own : ownKnob Tryd.prog.godebug = none := by kernel_rfl
theorem laidOut : laidOutB Tryd.prog = true := by kernel_rfl
theorem g64 : Tryd.prog.globalNamed "math/bits.deBruijn64tab" = some 5 := by kernel_rfl
theorem ty64 : (Tryd.prog.globals[5]?).map (·.type) = some 83 := by kernel_rfl
theorem c85 : Tryd.prog.cellsOf 83 = 64 := by kernel_rfl
theorem c5 : Tryd.prog.cellsOf 5 = 1 := by kernel_rfl
def zs64 : List Int := Lib.deBruijn64tab.map (fun n : Nat => (n : Int))
theorem datum64 : (Rows.laid_math_bits_deBruijn64tab : DataW Unit) = Lib.tabData .u8 zs64 := by kernel_rfl
theorem zs_at (j : Nat) (hj : j < 64) : zs64.getD j 0 = ((Lib.deBruijn64tab.getD j 0 : Nat) : Int) := by
  have h : ∀ k : Fin 64, zs64.getD k.1 0 = ((Lib.deBruijn64tab.getD k.1 0 : Nat) : Int) := by decide +kernel
  exact h ⟨j, hj⟩
theorem lt_of_cell {W : World} (a : Addr) (v : Value) (hv : W.cell? a = some v) : a.block < W.heap.size := by
  rcases Nat.lt_or_ge a.block W.heap.size with h' | h'
  · exact h'
  · simp [World.cell?, Array.getElem?_eq_none h'] at hv
theorem tab_of {W : World} (h : Lib.VarReads Tryd.prog W "math/bits.deBruijn64tab" Rows.laid_math_bits_deBruijn64tab) : Tab W := by
  obtain ⟨g, t, cs, fuel, p, hg, ht, hv, hd⟩ := h
  obtain rfl := Option.some.inj (g64.symm.trans hg)
  obtain rfl := Option.some.inj (ty64.symm.trans ht)
  rw [datum64] at hd
  have e := Lib.cells_of_tab Tryd.underlying83 Tryd.underlying5 c5 c85 hd
  have hti : Lib.TabIs Tryd.prog W "math/bits.deBruijn64tab" .u8 zs64 := by
    unfold Lib.TabIs
    rw [hv, ← e]
  have hl : zs64.length = 64 := by kernel_rfl
  refine ⟨fun j hj => ?_, ?_⟩
  · have := hti.cell g64 j (by omega)
    rw [zs_at j hj] at this
    exact this
  · exact lt_of_cell ⟨5, 0, none⟩ _ (hti.cell g64 0 (by omega))
theorem lits_inj {l m : List Int} (h : (lits .i64 l : List (DataW Unit)) = lits .i64 m) : l = m := by
  unfold lits at h
  have h1 : Function.Injective (fun z : Int => (DataW.lit (.int .i64 z) : DataW Unit)) := fun a b e => by
    simp only [DataW.lit.injEq, Lit.int.injEq, true_and] at e
    exact e
  exact List.map_inj_right (fun a b e => h1 e) |>.1 h
theorem fin_of {W : World} (h : Lib.VarReads Tryd.prog W "witting/partition.finest" Rows.laid_witting_partition_finest) : FinW W := by
  obtain ⟨g, t, cs, fuel, p, hg, ht, hv, hd⟩ := h
  have gf : Tryd.prog.globalNamed "witting/partition.finest" = some 0 := by kernel_rfl
  have tf : (Tryd.prog.globals[0]?).map (·.type) = some 24 := by kernel_rfl
  obtain rfl := Option.some.inj (gf.symm.trans hg)
  obtain rfl := Option.some.inj (tf.symm.trans ht)
  have hdat : (Rows.laid_witting_partition_finest : DataW Unit) = .slice (lits .i64 (finL 64)) [] := by kernel_rfl
  rw [hdat] at hd
  have hcell := World.var?_cell gf hv
  rcases open_ints Tryd.underlying24 Tryd.underlying3 (by kernel_rfl) hd with ⟨_, hx⟩ | ⟨a, len, cap, zs, hcs, _, hl, hm, hz, hx, hcl, _⟩
  · simp at hx
  · simp only [Prod.mk.injEq, DataW.slice.injEq] at hx
    obtain ⟨⟨e1, e2⟩, _⟩ := hx
    simp only [if_true] at hz
    have e := lits_inj e1
    have hlen : len = 64 := by
      have := congrArg List.length e
      rw [finL_length, List.length_take] at this
      omega
    subst hlen
    have h0 := hcell 0
    rw [← Array.getElem?_toList, hcs] at h0
    refine ⟨lt_of_cell _ _ h0, some a, cap, h0, by rw [ints_length, finL_length], fun _ => ⟨a, rfl, ?_, fun j u hu => ?_⟩⟩
    · have := lt_of_cell _ _ (hcl 0 (by omega))
      rwa [block_of_add] at this
    · rw [e] at hu
      unfold ints at hu
      rw [List.getElem?_map, List.getElem?_take] at hu
      split at hu
      · rename_i hj
        have hjz : j < zs.length := by omega
        rw [List.getElem?_eq_getElem hjz] at hu
        simp at hu
        subst hu
        rw [hcl j hjz, List.getD_eq_getElem?_getD, List.getElem?_eq_getElem hjz]
        rfl
      · cases hu
theorem env_of {W : World} (h : laidMetH Tryd.prog LL W) : Tab W ∧ FinW W := by
  rw [MakeChecks.laidMetH_plain _ _ _ (by kernel_rfl)] at h
  have m1 : ("math/bits.deBruijn64tab", Rows.laid_math_bits_deBruijn64tab) ∈ LL := by
    show _ ∈ [("math/bits.deBruijn64tab", Rows.laid_math_bits_deBruijn64tab), ("witting/partition.finest", Rows.laid_witting_partition_finest)]
    exact .head _
  have m2 : ("witting/partition.finest", Rows.laid_witting_partition_finest) ∈ LL := by
    show _ ∈ [("math/bits.deBruijn64tab", Rows.laid_math_bits_deBruijn64tab), ("witting/partition.finest", Rows.laid_witting_partition_finest)]
    exact .tail _ (.head _)
  exact ⟨tab_of (Lib.laidMet.reads h m1), fin_of (Lib.laidMet.reads h m2)⟩
/-- What the row's opening says of a slice of integers that came in: it is nil; or it leads to a row of 'cap' cells, the numbers zs (the first 'len' are its elements). -/
def IsRow (k : IntKind) (w : World) (a : Option Addr) (len cap : Nat) (zs : List Int) : Prop :=
  (a = none ∧ len = 0 ∧ cap = 0 ∧ zs = []) ∨
  ∃ x, a = some x ∧ len ≤ cap ∧ cap ≤ maxLen ∧ zs.length = cap ∧ (∀ i, i < zs.length → w.cell? (x.add i) = some (.int k (zs.getD i 0))) ∧ ∀ n ∈ zs, (Lit.int k n).wf = true
theorem IsRow.words {w : World} {a : Option Addr} {len cap : Nat} {zs : List Int} (h : IsRow .u64 w a len cap zs) :
    ∃ l, Reads w w.heap.size 1 a len (us l) ∧ Words l ∧ len ≤ maxLen ∧ (a = none → cap = 0) := by
  rcases h with ⟨rfl, rfl, rfl, rfl⟩ | ⟨x, rfl, hl, hm, hz, hc, hw⟩
  · exact ⟨[], Reads.none_, by intro x hx; simp at hx, Nat.zero_le _, fun _ => rfl⟩
  · have hb : ∀ n ∈ zs, 0 ≤ n ∧ n < 18446744073709551616 := fun n hn => by
      have := bounds_u64 (hw n hn)
      omega
    refine ⟨(zs.take len).map Int.toNat, ⟨by rw [us_length]; simp; omega, fun h0 => ⟨x, rfl, ?_, fun j u hu => ?_⟩⟩, ?_, by omega, fun h => by cases h⟩
    · have := hc 0 (by omega)
      rcases Nat.lt_or_ge (x.add 0).block w.heap.size with h' | h'
      · rwa [block_of_add] at h'
      · simp [World.cell?, Array.getElem?_eq_none h'] at this
    · unfold us at hu
      rw [List.getElem?_map, List.getElem?_map, List.getElem?_take] at hu
      split at hu
      · rename_i hj
        have hjz : j < zs.length := by omega
        rw [List.getElem?_eq_getElem hjz] at hu
        simp at hu
        subst hu
        have hbj := hb _ (List.getElem_mem hjz)
        rw [hc j hjz, List.getD_eq_getElem?_getD, List.getElem?_eq_getElem hjz]
        rw [Int.max_eq_left hbj.1]; rfl
      · cases hu
    · intro y hy
      obtain ⟨z, hz', rfl⟩ := List.mem_map.1 hy
      have := hb z (List.mem_of_mem_take hz')
      omega
noncomputable def laidW (os : Os) : World := World.laidAll Tryd.prog os LL
theorem laidW_os (os : Os) : (laidW os).os = os := World.laidAll_os _ _ _
theorem laid_met (os : Os) (args : Array Value) : laidMet Tryd.prog LL ((laidW os).forCall (fun _ _ => 0) ⟨#[], args, []⟩).memory :=
  laidMet_laidAll _ (by kernel_rfl) (by kernel_rfl)
theorem vars_ok (os : Os) (args : Array Value) : ((laidW os).forCall (fun _ _ => 0) ⟨#[], args, []⟩).variablesRefB Tryd.prog = true := by kernel_rfl
theorem heap_ok (os : Os) (args : Array Value) : (((laidW os).forCall (fun _ _ => 0) ⟨#[], args, []⟩).heap.toList.drop Tryd.prog.globals.size).take ((begin Tryd.prog (fun _ _ => 0) default).world.heap.size - Tryd.prog.globals.size) =
      (begin Tryd.prog (fun _ _ => 0) default).world.heap.toList.drop Tryd.prog.globals.size := by kernel_rfl
theorem no_looks : false = Tryd.pinned.checked.prog.looks [] := by kernel_rfl
end Go.Proofs.YtichhbnpdhfimaaDoor.pof
