/- What the rows of layer 3 give the walks: a world for the witness; a list of numbers that came in. -/
import Derived.Test.YtcemkjmmmjabkaaPo
import Derived.Test.YtcemkjmmmjabkaaRows
import Derived.ProofKit
import Derived.OpenShut
import Derived.LaidMore
import Derived.Lay
import Derived.Shelf.Vars
import Derived.Deep.DeepHandedRow
import Derived.SevenTiedAt
namespace Go.Proofs.Ytcemkjmmmjabkaa
open Go.ChangeShapes Go.WideShapes Go.ChangeAt Go.RowKit
def LL : List (String × DataW Unit) := Rows.partitionOrderRow.laid
theorem own : ownKnob Try.prog.godebug = none := by kernel_rfl
theorem laidOut : laidOutB Try.prog = true := by kernel_rfl
/-- What the row's opening says of a slice of integers that came in: it is nil; or it leads to a row of 'cap' cells, the numbers zs (the first 'len' are its elements). -/
def IsRow (k : IntKind) (w : World) (a : Option Addr) (len cap : Nat) (zs : List Int) : Prop :=
  (a = none ∧ len = 0 ∧ cap = 0 ∧ zs = []) ∨
  ∃ x, a = some x ∧ len ≤ cap ∧ cap ≤ maxLen ∧ zs.length = cap ∧ (∀ i, i < zs.length → w.cell? (x.add i) = some (.int k (zs.getD i 0))) ∧ ∀ n ∈ zs, (Lit.int k n).wf = true
theorem wfs_of {l : List Int} (h : ∀ x ∈ l, (Lit.int .i64 x).wf = true) : WFs l := fun i => by
  rw [List.getD_eq_getElem?_getD]
  by_cases hi : i < l.length
  · rw [List.getElem?_eq_getElem hi]; exact h _ (List.getElem_mem hi)
  · rw [List.getElem?_eq_none (by omega)]; decide
theorem IsRow.ints {w : World} {a : Option Addr} {len cap : Nat} {zs : List Int} (h : IsRow .i64 w a len cap zs) :
    Reads w w.heap.size 1 a len (ints (zs.take len)) ∧ (∀ x ∈ zs.take len, (Lit.int .i64 x).wf = true) ∧ len ≤ cap ∧ len ≤ maxLen := by
  rcases h with ⟨rfl, rfl, rfl, rfl⟩ | ⟨x, rfl, hl, hm, hz, hc, hw⟩
  · exact ⟨Reads.none_, by simp, Nat.le_refl _, Nat.zero_le _⟩
  · refine ⟨⟨by rw [ints_length]; simp; omega, fun h0 => ⟨x, rfl, ?_, fun j u hu => ?_⟩⟩, fun y hy => hw y (List.mem_of_mem_take hy), hl, by omega⟩
    · have := hc 0 (by omega)
      rcases Nat.lt_or_ge (x.add 0).block w.heap.size with h' | h'
      · rwa [block_of_add] at h'
      · simp [World.cell?, Array.getElem?_eq_none h'] at this
    · unfold Go.Proofs.Ytcemkjmmmjabkaa.ints at hu
      rw [List.getElem?_map, List.getElem?_take] at hu
      split at hu
      · rename_i hj
        have hjz : j < zs.length := by omega
        rw [List.getElem?_eq_getElem hjz] at hu
        simp at hu
        subst hu
        rw [hc j hjz, List.getD_eq_getElem?_getD, List.getElem?_eq_getElem hjz]
        rfl
      · cases hu
/-- a beginning of a list -/
theorem Reads.take {w : World} {B n k : Nat} {A : Option Addr} {l : List Int} (h : Reads w B 1 A n (Go.Proofs.Ytcemkjmmmjabkaa.ints l)) (hk : k ≤ n) : Reads w B 1 A k (Go.Proofs.Ytcemkjmmmjabkaa.ints (l.take k)) := by
  have hl := h.int_len
  refine ⟨by rw [ints_length]; simp; omega, fun h0 => ?_⟩
  obtain ⟨ad, hA, hb, hc⟩ := h.2 (by omega)
  refine ⟨ad, hA, hb, fun j u hu => hc j u ?_⟩
  unfold Go.Proofs.Ytcemkjmmmjabkaa.ints at hu ⊢
  rw [List.map_take, List.getElem?_take] at hu
  split at hu
  · exact hu
  · cases hu
noncomputable def laidW (os : Os) : World := World.laidAll Try.prog os LL
theorem laidW_os (os : Os) : (laidW os).os = os := World.laidAll_os _ _ _
theorem laid_met (os : Os) (args : Array Value) : laidMet Try.prog LL ((laidW os).forCall (fun _ _ => 0) ⟨#[], args, []⟩).memory :=
  laidMet_laidAll _ (by kernel_rfl) (by kernel_rfl)
theorem vars_ok (os : Os) (args : Array Value) : ((laidW os).forCall (fun _ _ => 0) ⟨#[], args, []⟩).variablesB Try.prog = true := by kernel_rfl
theorem heap_ok (os : Os) (args : Array Value) : (((laidW os).forCall (fun _ _ => 0) ⟨#[], args, []⟩).heap.toList.drop Try.prog.globals.size).take ((begin Try.prog (fun _ _ => 0) default).world.heap.size - Try.prog.globals.size) =
      (begin Try.prog (fun _ _ => 0) default).world.heap.toList.drop Try.prog.globals.size := by kernel_rfl
end Go.Proofs.Ytcemkjmmmjabkaa
