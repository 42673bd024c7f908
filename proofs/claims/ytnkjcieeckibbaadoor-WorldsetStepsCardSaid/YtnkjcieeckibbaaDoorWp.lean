/- What the rows of layer 1 list, and what it gives the walks: the two library variables (Env); a world that holds the listed tables, for the witness. -/
import Derived.Test.YtnkjcieeckibbaaDoorWo
import Derived.Test.YtnkjcieeckibbaaDoorCards
import Derived.Test.YtnkjcieeckibbaaDoorTie
import Derived.ProofKit
import Derived.OpenShut
import Derived.LaidMore
import Derived.Lay
import Derived.Lib.LaidTab
import Derived.Shelf.Vars
import Derived.Deep.DeepHandedRow
import Derived.SevenTiedAt
namespace Go.Proofs.YtnkjcieeckibbaaDoor
open Go.ChangeShapes Go.WideShapes Go.ChangeAt Go.RowKit
def LL : List (String × DataW Unit) := Rows.worldsetStepsRow.laid
theorem own : ownKnob Tryd.prog.godebug = none := by kernel_rfl
theorem laidOut : laidOutB Tryd.prog = true := by kernel_rfl
theorem g32 : Tryd.prog.globalNamed "math/bits.deBruijn32tab" = some 5 := by kernel_rfl
theorem g64 : Tryd.prog.globalNamed "math/bits.deBruijn64tab" = some 0 := by kernel_rfl
theorem ty64 : (Tryd.prog.globals[0]?).map (·.type) = some 85 := by kernel_rfl
theorem c85 : Tryd.prog.cellsOf 85 = 64 := by kernel_rfl
theorem c5 : Tryd.prog.cellsOf 5 = 1 := by kernel_rfl
def zs64 : List Int := Lib.deBruijn64tab.map (fun n : Nat => (n : Int))
theorem datum64 : (Rows.laid_math_bits_deBruijn64tab : DataW Unit) = Lib.tabData .u8 zs64 := by kernel_rfl
theorem zs_at (j : Nat) (hj : j < 64) : zs64.getD j 0 = ((Lib.deBruijn64tab.getD j 0 : Nat) : Int) := by
  have h : ∀ k : Fin 64, zs64.getD k.1 0 = ((Lib.deBruijn64tab.getD k.1 0 : Nat) : Int) := by decide +kernel
  exact h ⟨j, hj⟩
theorem tab_of {W : World} (h : laidMetH Tryd.prog LL W) : Lib.TabIs Tryd.prog W "math/bits.deBruijn64tab" .u8 zs64 := by
  rw [MakeChecks.laidMetH_plain _ _ _ (by kernel_rfl)] at h
  obtain ⟨ps, ⟨g0, t0, cs0, f0, p0, q0, _, _, _, _, ⟨g, t, cs, fuel, p, q, hg, ht, hv, hd, _⟩, _⟩, _⟩ := h
  obtain rfl := Option.some.inj (g64.symm.trans hg)
  obtain rfl := Option.some.inj (ty64.symm.trans ht)
  rw [datum64] at hd
  have e := Lib.cells_of_tab Tryd.underlying85 Tryd.underlying5 c5 c85 hd
  unfold Lib.TabIs
  rw [hv, ← e]
theorem env_of {W : World} (h : laidMetH Tryd.prog LL W) (hs : W.ShapedOpen Tryd.prog) : Env W := by
  have ht := tab_of h
  have hm : ∃ m, W.cell? ⟨2, 0, none⟩ = some (.int .i64 m) :=
    cell_of_shapedOpen_int (zero := #[.int .i64 0]) (t := 3) hs (of_decide_eq_true (by kernel_rfl)) (by kernel_rfl) (by kernel_rfl) (by kernel_rfl) (by kernel_rfl) Tryd.underlying3
  have hl : zs64.length = 64 := by kernel_rfl
  have lt : ∀ (a : Addr) (v : Value), W.cell? a = some v → a.block < W.heap.size := by
    intro a v hv
    rcases Nat.lt_or_ge a.block W.heap.size with h' | h'
    · exact h'
    · simp [World.cell?, Array.getElem?_eq_none h'] at hv
  refine ⟨⟨fun j hj => ?_, ?_⟩, hm, ?_⟩
  · have := ht.cell g64 j (by omega)
    rw [zs_at j hj] at this
    exact this
  · exact lt ⟨0, 0, none⟩ _ (ht.cell g64 0 (by omega))
  · obtain ⟨m, hm⟩ := hm
    exact lt ⟨2, 0, none⟩ _ hm
noncomputable def laidW (os : Os) : World := World.laidAll Tryd.prog os LL
theorem laidW_os (os : Os) : (laidW os).os = os := World.laidAll_os _ _ _
end Go.Proofs.YtnkjcieeckibbaaDoor
