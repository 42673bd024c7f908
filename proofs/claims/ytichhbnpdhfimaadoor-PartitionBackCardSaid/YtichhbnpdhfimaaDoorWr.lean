/- For the seat with laid variables: what the row of PartitionBack lists, and what it gives the walks: the table of trailing zeros; a world that holds it, for the witness; a list of words that came in. -/
import Derived.Test.YtichhbnpdhfimaaDoorPu
import Derived.Test.YtichhbnpdhfimaaDoorPv
import Derived.Test.YtichhbnpdhfimaaDoorCards
import Derived.Test.YtichhbnpdhfimaaDoorTie
import Derived.ProofKit
import Derived.OpenShut
import Derived.LaidMore
import Derived.Lay
import Derived.Lib.LaidTab
import Derived.Shelf.Vars
import Derived.Deep.DeepHandedRow
import Derived.SevenTiedAt
namespace Go.Proofs.YtichhbnpdhfimaaDoor
open Go.ChangeShapes Go.WideShapes Go.ChangeAt Go.RowKit
def LL : List (String × DataW Unit) := Rows.partitionBackRow.laid
theorem own : ownKnob Tryd.prog.godebug = none := by kernel_rfl
theorem laidOut : laidOutB Tryd.prog = true := by kernel_rfl
theorem g64 : Tryd.prog.globalNamed "math/bits.deBruijn64tab" = some 5 := by kernel_rfl
theorem ty64 : (Tryd.prog.globals[5]?).map (·.type) = some 83 := by kernel_rfl
theorem c85 : Tryd.prog.cellsOf 83 = 64 := by kernel_rfl
theorem c5 : Tryd.prog.cellsOf 5 = 1 := by kernel_rfl
def zs64 : List Int := Lib.deBruijn64tab.map (fun n : Nat => (n : Int))
theorem datum64 : (Rows.laid_math_bits_deBruijn64tab : DataW Unit) = Lib.tabData .u8 zs64 := by kernel_rfl
theorem zs_at (j : Nat) (hj : j < 64) : zs64.getD j 0 = ((Lib.deBruijn64tab.getD j 0 : Nat) : Int) := by
  have h : ∀ k : Fin 64, zs64.getD k.1 0 = ((Lib.deBruijn64tab.getD k.1 0 : Nat) : Int) := by decide +kernel
  exact h ⟨j, hj⟩
theorem tab_of {W : World} (h : laidMetH Tryd.prog LL W) : Lib.TabIs Tryd.prog W "math/bits.deBruijn64tab" .u8 zs64 := by
  rw [MakeChecks.laidMetH_plain _ _ _ (by kernel_rfl)] at h
  obtain ⟨ps, ⟨g, t, cs, fuel, p, q, hg, ht, hv, hd, _⟩, _⟩ := h
  obtain rfl := Option.some.inj (g64.symm.trans hg)
  obtain rfl := Option.some.inj (ty64.symm.trans ht)
  rw [datum64] at hd
  have e := Lib.cells_of_tab Tryd.underlying83 Tryd.underlying5 c5 c85 hd
  unfold Lib.TabIs
  rw [hv, ← e]
theorem env_of {W : World} (h : laidMetH Tryd.prog LL W) : Tab W := by
  have ht := tab_of h
  have hl : zs64.length = 64 := by kernel_rfl
  have lt : ∀ (a : Addr) (v : Value), W.cell? a = some v → a.block < W.heap.size := by
    intro a v hv
    rcases Nat.lt_or_ge a.block W.heap.size with h' | h'
    · exact h'
    · simp [World.cell?, Array.getElem?_eq_none h'] at hv
  refine ⟨fun j hj => ?_, ?_⟩
  · have := ht.cell g64 j (by omega)
    rw [zs_at j hj] at this
    exact this
  · exact lt ⟨5, 0, none⟩ _ (ht.cell g64 0 (by omega))
/-- What the row's opening says of a slice of integers that came in: it is nil; or it leads to a row of 'cap' cells, the numbers zs (the first 'len' are its elements). -/
def IsRow (k : IntKind) (w : World) (a : Option Addr) (len cap : Nat) (zs : List Int) : Prop :=
  (a = none ∧ len = 0 ∧ cap = 0 ∧ zs = []) ∨
  ∃ x, a = some x ∧ len ≤ cap ∧ cap ≤ maxLen ∧ zs.length = cap ∧ (∀ i, i < zs.length → w.cell? (x.add i) = some (.int k (zs.getD i 0))) ∧ ∀ n ∈ zs, (Lit.int k n).wf = true
theorem wfs_of {l : List Int} (h : ∀ x ∈ l, (Lit.int .i64 x).wf = true) : WFs l := fun i => by
  rw [List.getD_eq_getElem?_getD]
  by_cases hi : i < l.length
  · rw [List.getElem?_eq_getElem hi]; exact h _ (List.getElem_mem hi)
  · rw [List.getElem?_eq_none (by omega)]; decide
theorem IsRow.ints {w : World} {a : Option Addr} {len cap : Nat} {zs : List Int} (h : IsRow .i64 w a len cap zs) :
    Reads w w.heap.size 1 a len (ints (zs.take len)) ∧ (∀ x ∈ zs.take len, (Lit.int .i64 x).wf = true) ∧ len ≤ cap ∧ len ≤ maxLen := by
  rcases h with ⟨rfl, rfl, rfl, rfl⟩ | ⟨x, rfl, hl, hm, hz, hc, hw⟩
  · exact ⟨Reads.none_, by simp, Nat.le_refl _, Nat.zero_le _⟩
  · refine ⟨⟨by rw [ints_length]; simp; omega, fun h0 => ⟨x, rfl, ?_, fun j u hu => ?_⟩⟩, fun y hy => hw y (List.mem_of_mem_take hy), hl, by omega⟩
    · have := hc 0 (by omega)
      rcases Nat.lt_or_ge (x.add 0).block w.heap.size with h' | h'
      · rwa [block_of_add] at h'
      · simp [World.cell?, Array.getElem?_eq_none h'] at this
    · unfold Go.Proofs.YtichhbnpdhfimaaDoor.ints at hu
      rw [List.getElem?_map, List.getElem?_take] at hu
      split at hu
      · rename_i hj
        have hjz : j < zs.length := by omega
        rw [List.getElem?_eq_getElem hjz] at hu
        simp at hu
        subst hu
        rw [hc j hjz, List.getD_eq_getElem?_getD, List.getElem?_eq_getElem hjz]
        rfl
      · cases hu
/-- a beginning of a list -/
theorem Reads.take {w : World} {B n k : Nat} {A : Option Addr} {l : List Int} (h : Reads w B 1 A n (Go.Proofs.YtichhbnpdhfimaaDoor.ints l)) (hk : k ≤ n) : Reads w B 1 A k (Go.Proofs.YtichhbnpdhfimaaDoor.ints (l.take k)) := by
  have hl := h.int_len
  refine ⟨by rw [ints_length]; simp; omega, fun h0 => ?_⟩
  obtain ⟨ad, hA, hb, hc⟩ := h.2 (by omega)
  refine ⟨ad, hA, hb, fun j u hu => hc j u ?_⟩
  unfold Go.Proofs.YtichhbnpdhfimaaDoor.ints at hu ⊢
  rw [List.map_take, List.getElem?_take] at hu
  split at hu
  · exact hu
  · cases hu
noncomputable def laidW (os : Os) : World := World.laidAll Tryd.prog os LL
theorem laidW_os (os : Os) : (laidW os).os = os := World.laidAll_os _ _ _
theorem laid_met (os : Os) (args : Array Value) : laidMet Tryd.prog LL ((laidW os).forCall (fun _ _ => 0) ⟨#[], args, []⟩).memory :=
  laidMet_laidAll _ (by kernel_rfl) (by kernel_rfl)
theorem vars_ok (os : Os) (args : Array Value) : ((laidW os).forCall (fun _ _ => 0) ⟨#[], args, []⟩).variablesB Tryd.prog = true := by kernel_rfl
theorem heap_ok (os : Os) (args : Array Value) : (((laidW os).forCall (fun _ _ => 0) ⟨#[], args, []⟩).heap.toList.drop Tryd.prog.globals.size).take ((begin Tryd.prog (fun _ _ => 0) default).world.heap.size - Tryd.prog.globals.size) =
      (begin Tryd.prog (fun _ _ => 0) default).world.heap.toList.drop Tryd.prog.globals.size := by kernel_rfl
theorem no_looks : false = Tryd.pinned.checked.prog.looks [] := by kernel_rfl
end Go.Proofs.YtichhbnpdhfimaaDoor
