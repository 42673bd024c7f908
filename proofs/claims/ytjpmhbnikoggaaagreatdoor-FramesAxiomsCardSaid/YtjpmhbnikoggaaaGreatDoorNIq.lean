/- Layer 15: what the rows list, and what it gives the walks; a model that came in. -/
import Derived.Test.YtjpmhbnikoggaaaGreatDoorNIo
import Derived.Test.YtjpmhbnikoggaaaGreatDoorCards
import Derived.Test.YtjpmhbnikoggaaaGreatDoorTie
import Derived.ProofKit
import Derived.OpenShut
import Derived.LaidMore
import Derived.Lay
import Derived.Lib.LaidTab
import Derived.Lib.LaidU8
import Derived.Lib.SmallJoins
import Derived.SliceStrings
import Derived.Shelf.Vars
import Derived.Deep.DeepHandedRow
import Derived.Deep.DeepWitnessRowRef
import Derived.SevenTiedAt
import Derived.Deep.Slices
import Derived.Deep.Fields
import Derived.ChangeSame
namespace Go.Proofs.YtjpmhbnikoggaaaGreatDoor.fra
open Go.ChangeShapes Go.WideShapes Go.ChangeAt Go.RowKit Go.Proofs.Ws Go.Deep
set_option maxRecDepth 100000
def LL13 : List (String × DataW Unit) := Rows.framesHasRow.laid
theorem own : ownKnob Tryz.prog.godebug = none := by kernel_rfl
theorem laidOut : laidOutB Tryz.prog = true := by kernel_rfl
theorem g64 : Tryz.prog.globalNamed "math/bits.deBruijn64tab" = some 0 := by kernel_rfl
theorem ty64 : (Tryz.prog.globals[0]?).map (·.type) = some 171 := by kernel_rfl
theorem c85 : Tryz.prog.cellsOf 171 = 64 := by kernel_rfl
theorem c5 : Tryz.prog.cellsOf 5 = 1 := by kernel_rfl
def zs64 : List Int := Lib.deBruijn64tab.map (fun n : Nat => (n : Int))
theorem datum64 : (Rows.laid_math_bits_deBruijn64tab : DataW Unit) = Lib.tabData .u8 zs64 := by kernel_rfl
theorem zs_at (j : Nat) (hj : j < 64) : zs64.getD j 0 = ((Lib.deBruijn64tab.getD j 0 : Nat) : Int) := by
  have h : ∀ k : Fin 64, zs64.getD k.1 0 = ((Lib.deBruijn64tab.getD k.1 0 : Nat) : Int) := by decide +kernel
  exact h ⟨j, hj⟩
theorem lt_of_cell {W : World} (a : Addr) (v : Value) (hv : W.cell? a = some v) : a.block < W.heap.size := by
  rcases Nat.lt_or_ge a.block W.heap.size with h' | h'
  · exact h'
  · simp [World.cell?, Array.getElem?_eq_none h'] at hv
theorem tab_of {W : World} (h : Lib.VarReads Tryz.prog W "math/bits.deBruijn64tab" Rows.laid_math_bits_deBruijn64tab) : Tab W := by
  obtain ⟨g, t, cs, fuel, p, hg, ht, hv, hd⟩ := h
  obtain rfl := Option.some.inj (g64.symm.trans hg)
  obtain rfl := Option.some.inj (ty64.symm.trans ht)
  rw [datum64] at hd
  have e := Lib.cells_of_tab Tryz.underlying171 Tryz.underlying5 c5 c85 hd
  have hti : Lib.TabIs Tryz.prog W "math/bits.deBruijn64tab" .u8 zs64 := by
    unfold Lib.TabIs
    rw [hv, ← e]
  have hl : zs64.length = 64 := by kernel_rfl
  refine ⟨fun j hj => ?_, ?_⟩
  · have := hti.cell g64 j (by omega)
    rw [zs_at j hj] at this
    exact this
  · exact lt_of_cell ⟨0, 0, none⟩ _ (hti.cell g64 0 (by omega))
theorem env_of {W : World} (h : laidMetH Tryz.prog LL13 W) : Tab W := by
  rw [MakeChecks.laidMetH_plain _ _ _ (by kernel_rfl)] at h
  have m1 : ("math/bits.deBruijn64tab", (Rows.laid_math_bits_deBruijn64tab : DataW Unit)) ∈ LL13 := by
    show _ ∈ [("math/bits.deBruijn64tab", Rows.laid_math_bits_deBruijn64tab)]
    exact .head _
  exact tab_of (Lib.laidMet.reads h m1)
noncomputable def laidW (os : Os) : World := World.laidAll Tryz.prog os LL13
theorem laidW_os (os : Os) : (laidW os).os = os := World.laidAll_os _ _ _
theorem laid_met (os : Os) (args : Array Value) : laidMet Tryz.prog LL13 ((laidW os).forCall (fun _ _ => 0) ⟨#[], args, []⟩).memory :=
  laidMet_laidAll _ (by kernel_rfl) (by kernel_rfl)
theorem vars_ok (os : Os) (args : Array Value) : ((laidW os).forCall (fun _ _ => 0) ⟨#[], args, []⟩).variablesRefB Tryz.prog = true := by kernel_rfl
theorem heap_ok (os : Os) (args : Array Value) : (((laidW os).forCall (fun _ _ => 0) ⟨#[], args, []⟩).heap.toList.drop Tryz.prog.globals.size).take ((begin Tryz.prog (fun _ _ => 0) default).world.heap.size - Tryz.prog.globals.size) =
      (begin Tryz.prog (fun _ _ => 0) default).world.heap.toList.drop Tryz.prog.globals.size := by kernel_rfl
theorem no_looks : false = Tryz.pinned.checked.prog.looks [] := by kernel_rfl
/-- what the row's opening says of a slice of words -/
def WRow (w : World) (A : Option Addr) (n c : Nat) (l : List Nat) : Prop := Reads w w.heap.size 1 A n (us l) ∧ Words l ∧ n ≤ c ∧ n ≤ maxLen
section
variable {H : Type} {enc : TypeId × Value → H} {w : World} {base : Nat} {spare : Nat → Bool} {held : Bool}
theorem open_words {fuel : Nat} {v : Value} {x : DataW H × List MemPlace} (h : DataW.trod enc Tryz.prog w base spare held fuel 22 [v] = some x) : ∃ A n c l, v = .slice A n c ∧ WRow w A n c l := by
  rcases open_ints Tryz.underlying22 Tryz.underlying37 (by kernel_rfl) h with ⟨hcs, _⟩ | ⟨a, len, cap, zs, hcs, _, hl, hm, hz, _, hcell, hwz⟩
  · simp at hcs
    exact ⟨none, 0, 0, [], hcs, (by unfold us; exact Reads.none_), fun x hx => absurd hx (by simp), Nat.le_refl _, Nat.zero_le _⟩
  · simp at hcs
    have hlz : len ≤ zs.length := by rw [hz]; split <;> omega
    have hu : ∀ z ∈ zs, 0 ≤ z ∧ z < 18446744073709551616 := fun z hz => by
      have h1 := hwz z hz
      have q1 : IntKind.u64.min = 0 := rfl
      have q2 : IntKind.u64.max = 18446744073709551615 := rfl
      simp [Lit.wf] at h1
      omega
    refine ⟨some a, len, cap, (zs.take len).map Int.toNat, hcs, ⟨by rw [us_length, List.length_map, List.length_take]; omega, fun h0 => ⟨a, rfl, ?_, fun j u hj => ?_⟩⟩, fun x hx => ?_, hl, by omega⟩
    · have h1 := hcell 0 (by omega)
      have := lt_of_cell _ _ h1
      rwa [block_of_add] at this
    · unfold us at hj
      rw [List.map_map, List.getElem?_map, List.getElem?_take] at hj
      split at hj
      · rename_i hjl
        have hjz : j < zs.length := by omega
        rw [List.getElem?_eq_getElem hjz] at hj
        simp at hj
        rw [hcell j hjz, List.getD_eq_getElem?_getD, List.getElem?_eq_getElem hjz, ← hj]
        have := hu zs[j] (List.getElem_mem hjz)
        simp only [Option.getD_some, Option.some.injEq, Value.int.injEq, true_and]
        omega
      · cases hj
    · obtain ⟨z, hz, rfl⟩ := List.mem_map.1 hx
      have := hu z (List.mem_of_mem_take hz)
      show z.toNat < 18446744073709551616
      omega
end
end Go.Proofs.YtjpmhbnikoggaaaGreatDoor.fra
