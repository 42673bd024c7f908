/- Layer 15: what the rows list, and what it gives the walks; a model that came in. -/
import Derived.Test.YtjpmhbnikoggaaaGreatDoorNIo
import Derived.Test.YtjpmhbnikoggaaaGreatDoorCards
import Derived.Test.YtjpmhbnikoggaaaGreatDoorTie
import Derived.ProofKit
import Derived.OpenShut
import Derived.LaidMore
import Derived.Lay
import Derived.Lib.LaidTab
import Derived.Lib.LaidU8
import Derived.Lib.SmallJoins
import Derived.SliceStrings
import Derived.Shelf.Vars
import Derived.Deep.DeepHandedRow
import Derived.Deep.DeepWitnessRowRef
import Derived.SevenTiedAt
import Derived.Deep.Slices
import Derived.Deep.Fields
import Derived.ChangeSame
namespace Go.Proofs.YtjpmhbnikoggaaaGreatDoor.fra
open Go.ChangeShapes Go.WideShapes Go.ChangeAt Go.RowKit Go.Proofs.Ws Go.Deep
set_option maxRecDepth 100000
def LL13 : List (String × DataW Unit) := Rows.framesHasRow.laid
theorem own : ownKnob Tryz.prog.godebug = none := by kernel_rfl
theorem laidOut : laidOutB Tryz.prog = true := by kernel_rfl
theorem g64 : Tryz.prog.globalNamed "math/bits.deBruijn64tab" = some 0 := by kernel_rfl
theorem ty64 : (Tryz.prog.globals[0]?).map (·.type) = some 171 := by kernel_rfl
theorem c85 : Tryz.prog.cellsOf 171 = 64 := by kernel_rfl
theorem c5 : Tryz.prog.cellsOf 5 = 1 := by kernel_rfl
def zs64 : List Int := Lib.deBruijn64tab.map (fun n : Nat => (n : Int))
theorem datum64 : (Rows.laid_math_bits_deBruijn64tab : DataW Unit) = Lib.tabData .u8 zs64 := by kernel_rfl
theorem zs_at (j : Nat) (hj : j < 64) : zs64.getD j 0 = ((Lib.deBruijn64tab.getD j 0 : Nat) : Int) := by
  have h : ∀ k : Fin 64, zs64.getD k.1 0 = ((Lib.deBruijn64tab.getD k.1 0 : Nat) : Int) := by decide +kernel
  exact h ⟨j, hj⟩
theorem lt_of_cell {W : World} (a : Addr) (v : Value) (hv : W.cell? a = some v) : a.block < W.heap.size := by
  rcases Nat.lt_or_ge a.block W.heap.size with h' | h'
  · exact h'
  · simp [World.cell?, Array.getElem?_eq_none h'] at hv
theorem tab_of {W : World} (h : Lib.VarReads Tryz.prog W "math/bits.deBruijn64tab" Rows.laid_math_bits_deBruijn64tab) : Tab W := by
  obtain ⟨g, t, cs, fuel, p, hg, ht, hv, hd⟩ := h
  obtain rfl := Option.some.inj (g64.symm.trans hg)
  obtain rfl := Option.some.inj (ty64.symm.trans ht)
  rw [datum64] at hd
  have e := Lib.cells_of_tab Tryz.underlying171 Tryz.underlying5 c5 c85 hd
  have hti : Lib.TabIs Tryz.prog W "math/bits.deBruijn64tab" .u8 zs64 := by
    unfold Lib.TabIs
    rw [hv, ← e]
  have hl : zs64.length = 64 := by kernel_rfl
  refine ⟨fun j hj => ?_, ?_⟩
  · have := hti.cell g64 j (by omega)
    rw [zs_at j hj] at this
    exact this
  · exact lt_of_cell ⟨0, 0, none⟩ _ (hti.cell g64 0 (by omega))
theorem env_of {W : World} (h : laidMetH Tryz.prog LL13 W) : Tab W := by
  rw [MakeChecks.laidMetH_plain _ _ _ (by kernel_rfl)] at h
  have m1 : ("math/bits.deBruijn64tab", (Rows.laid_math_bits_deBruijn64tab : DataW Unit)) ∈ LL13 := by
    show _ ∈ [("math/bits.deBruijn64tab", Rows.laid_math_bits_deBruijn64tab)]
    exact .head _
  exact tab_of (Lib.laidMet.reads h m1)
noncomputable def laidW (os : Os) : World := World.laidAll Tryz.prog os LL13
theorem laidW_os (os : Os) : (laidW os).os = os := World.laidAll_os _ _ _
theorem laid_met (os : Os) (args : Array Value) : laidMet Tryz.prog LL13 ((laidW os).forCall (fun _ _ => 0) ⟨#[], args, []⟩).memory :=
  laidMet_laidAll _ (by kernel_rfl) (by kernel_rfl)
theorem vars_ok (os : Os) (args : Array Value) : ((laidW os).forCall (fun _ _ => 0) ⟨#[], args, []⟩).variablesRefB Tryz.prog = true := by kernel_rfl
theorem heap_ok (os : Os) (args : Array Value) : (((laidW os).forCall (fun _ _ => 0) ⟨#[], args, []⟩).heap.toList.drop Tryz.prog.globals.size).take ((begin Tryz.prog (fun _ _ => 0) default).world.heap.size - Tryz.prog.globals.size) =
      (begin Tryz.prog (fun _ _ => 0) default).world.heap.toList.drop Tryz.prog.globals.size := by kernel_rfl
theorem no_looks : false = Tryz.pinned.checked.prog.looks [] := by kernel_rfl
theorem sliceCells : Tryz.prog.cellsOf 22 = 1 := by kernel_rfl
/-- what the row's opening says of a slice of words -/
def WRow (w : World) (A : Option Addr) (n c : Nat) (l : List Nat) : Prop := Reads w w.heap.size 1 A n (us l) ∧ Words l ∧ n ≤ c ∧ n ≤ maxLen
section
variable {H : Type} {enc : TypeId × Value → H} {w : World} {base : Nat} {spare : Nat → Bool} {held : Bool}
theorem open_words {fuel : Nat} {v : Value} {x : DataW H × List MemPlace} (h : DataW.trod enc Tryz.prog w base spare held fuel 22 [v] = some x) : ∃ A n c l, v = .slice A n c ∧ WRow w A n c l := by
  rcases open_ints Tryz.underlying22 Tryz.underlying37 (by kernel_rfl) h with ⟨hcs, _⟩ | ⟨a, len, cap, zs, hcs, _, hl, hm, hz, _, hcell, hwz⟩
  · simp at hcs
    exact ⟨none, 0, 0, [], hcs, (by unfold us; exact Reads.none_), fun x hx => absurd hx (by simp), Nat.le_refl _, Nat.zero_le _⟩
  · simp at hcs
    have hlz : len ≤ zs.length := by rw [hz]; split <;> omega
    have hu : ∀ z ∈ zs, 0 ≤ z ∧ z < 18446744073709551616 := fun z hz => by
      have h1 := hwz z hz
      have q1 : IntKind.u64.min = 0 := rfl
      have q2 : IntKind.u64.max = 18446744073709551615 := rfl
      simp [Lit.wf] at h1
      omega
    refine ⟨some a, len, cap, (zs.take len).map Int.toNat, hcs, ⟨by rw [us_length, List.length_map, List.length_take]; omega, fun h0 => ⟨a, rfl, ?_, fun j u hj => ?_⟩⟩, fun x hx => ?_, hl, by omega⟩
    · have h1 := hcell 0 (by omega)
      have := lt_of_cell _ _ h1
      rwa [block_of_add] at this
    · unfold us at hj
      rw [List.map_map, List.getElem?_map, List.getElem?_take] at hj
      split at hj
      · rename_i hjl
        have hjz : j < zs.length := by omega
        rw [List.getElem?_eq_getElem hjz] at hj
        simp at hj
        rw [hcell j hjz, List.getD_eq_getElem?_getD, List.getElem?_eq_getElem hjz, ← hj]
        have := hu zs[j] (List.getElem_mem hjz)
        simp only [Option.getD_some, Option.some.injEq, Value.int.injEq, true_and]
        omega
      · cases hj
    · obtain ⟨z, hz, rfl⟩ := List.mem_map.1 hx
      have := hu z (List.mem_of_mem_take hz)
      show z.toNat < 18446744073709551616
      omega
def LRow (w : World) (A : Option Addr) (n c : Nat) (ls : List (List Nat)) : Prop := UsR w w.heap.size A n ls ∧ (∀ l ∈ ls, Words l) ∧ n ≤ c ∧ n ≤ maxLen
theorem open_rows {fuel : Nat} {v : Value} {x : DataW H × List MemPlace} (h : DataW.trod enc Tryz.prog w base spare held fuel 23 [v] = some x) : ∃ A n c ls, v = .slice A n c ∧ LRow w A n c ls := by
  rcases open_slice Tryz.underlying23 h with ⟨hcs, _⟩ | ⟨a, len, cap, m, n', D, Pl, hcs, hb, hl, hm, hmm, _, hi⟩
  · simp at hcs
    exact ⟨none, 0, 0, [], hcs, ⟨rfl, [], Reads.none_, fun j hj => absurd hj (by omega)⟩, fun l hl => absurd hl (by simp), Nat.le_refl _, Nat.zero_le _⟩
  · simp at hcs
    have hlm : len ≤ m := by rw [hmm]; split <;> omega
    have hex : ∀ i, i < len → ∃ p : Value × List Nat, w.cell? (a.add i) = some p.1 ∧ ∃ Aj cj, p.1 = .slice Aj p.2.length cj ∧ Reads w w.heap.size 1 Aj p.2.length (us p.2) ∧ p.2.length ≤ maxLen ∧ Words p.2 := fun i hin => by
      obtain ⟨cs', h1, h2⟩ := hi i (by omega)
      obtain ⟨_, hlen, h3⟩ := World.cells?_some h1
      rw [sliceCells] at h3 hlen
      match cs', hlen with
      | [v'], _ =>
        obtain ⟨Aj, nj, cj, l, rfl, hr⟩ := open_words h2
        have h6 := h3 0 (by decide)
        have hlj := hr.1.word_len
        have e0 : (a.add (i * 1)).add 0 = a.add i := by rw [Nat.mul_one]; generalize a.add i = b; cases b; simp [Addr.add]
        refine ⟨(.slice Aj nj cj, l), ?_, Aj, cj, ?_, ?_, ?_, hr.2.1⟩
        · rw [e0] at h6
          exact h6
        · dsimp only; rw [hlj]
        · dsimp only; rw [hlj]; exact hr.1
        · dsimp only; rw [hlj]; exact hr.2.2.2
    obtain ⟨g, hg⟩ : ∃ g : Nat → Value × List Nat, ∀ i, i < len → w.cell? (a.add i) = some (g i).1 ∧ ∃ Aj cj, (g i).1 = .slice Aj (g i).2.length cj ∧ Reads w w.heap.size 1 Aj (g i).2.length (us (g i).2) ∧ (g i).2.length ≤ maxLen ∧ Words (g i).2 :=
      ⟨fun i => if hi : i < len then Classical.choose (hex i hi) else (.slice none 0 0, []), fun i hin => by dsimp only; rw [dif_pos hin]; exact Classical.choose_spec (hex i hin)⟩
    have hgl : ∀ j, j < len → ((List.range len).map (fun i => (g i).2)).getD j [] = (g j).2 := fun j hj => by simp [hj]
    refine ⟨some a, len, cap, (List.range len).map (fun i => (g i).2), hcs, ⟨by simp, (List.range len).map (fun i => (g i).1), ⟨by simp, fun h0 => ⟨a, rfl, ?_, fun j u hu => ?_⟩⟩, fun j hj => ?_⟩, fun l hl => ?_, hl, by omega⟩
    · have h1 := (hg 0 h0).1
      have := lt_of_cell _ _ h1
      rwa [block_of_add] at this
    · have hj : j < len := by
        have := (List.getElem?_eq_some_iff.1 hu).1
        simpa using this
      simp [hj] at hu
      rw [← hu]
      exact (hg j hj).1
    · obtain ⟨_, Aj, cj, e1, e2, e3, _⟩ := hg j hj
      rw [hgl j hj]
      exact ⟨Aj, cj, by simp [hj, e1], e2, e3⟩
    · obtain ⟨i, hi, rfl⟩ := List.mem_map.1 hl
      obtain ⟨_, _, _, _, _, _, e4⟩ := hg i (List.mem_range.1 hi)
      exact e4
theorem open_mo {r : Reach} {b0 : Nat} {v : Value} {d : DataW H} {p : List MemPlace} (hv : Value.okWide Tryz.prog w r b0 25 v)
    (h : DataW.Trod enc Tryz.prog w 0 (fun _ => true) held 25 v d p) : ∃ m, MoR w w.heap.size v m := by
  obtain ⟨v0, v1, v2, y0, y1, y2, n, rfl, _, _, h0, h1, h2⟩ := Go.Joins.open_agg3 Tryz.underlying25 (by kernel_rfl) (by kernel_rfl) hv h
  obtain ⟨z, hz, _, hw⟩ := DataW.trod_int Tryz.underlying3 h0
  obtain ⟨A1, n1, c1, l1, rfl, w1⟩ := open_words h1
  obtain ⟨A2, n2, c2, l2, rfl, w2⟩ := open_rows h2
  injection hz with hz
  subst hz
  have e1 := w1.1.word_len
  have e2 := w2.1.len
  refine ⟨⟨z, l1, l2⟩, ⟨A1, c1, A2, c2, by dsimp only; rw [e1, e2], by dsimp only; rw [e1]; exact w1.1, by dsimp only; rw [e2]; exact w2.1⟩, ⟨by dsimp only; rw [e1]; exact w1.2.2.2, by dsimp only; rw [e2]; exact w2.2.2.2⟩, ?_, w1.2.1, w2.2.1⟩
  have q1 : IntKind.i64.min = -9223372036854775808 := rfl
  have q2 : IntKind.i64.max = 9223372036854775807 := rfl
  simp [Lit.wf] at hw
  dsimp only
  omega
end
end Go.Proofs.YtjpmhbnikoggaaaGreatDoor.fra
