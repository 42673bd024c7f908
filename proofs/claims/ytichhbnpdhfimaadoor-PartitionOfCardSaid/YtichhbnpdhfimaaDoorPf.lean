/- Layer 3: the keys of the map in Split: pairs of numbers. -/
import Derived.Test.YtichhbnpdhfimaaDoorPe
import Derived.Maps.OwnSet
import Derived.Maps.OwnOps
import Derived.Maps.Views
namespace Go.Proofs.YtichhbnpdhfimaaDoor
open Go.RowKit Go.Proofs.Ws Go.Maps
theorem partU : ∃ fs, Tryd.prog.underlying 80 = some (.struct fs) := ⟨_, Tryd.underlying80⟩
theorem partKT : Tryd.prog.keyType 80 = true := by kernel_rfl
theorem partSize : Tryd.prog.types.size = (Tryd.prog.types.size - 1) + 1 := by kernel_rfl
theorem partLaid : laidOutB Tryd.prog = true := by kernel_rfl
theorem partLaw : Keyed Tryd.prog 80 :=
  Keyed.of_law (deep_law_laid partLaid (m := 9999) (by omega) (of_decide_eq_true (by kernel_rfl)) (by kernel_rfl) (by kernel_rfl))
theorem partCells : Tryd.prog.cellsOf 80 = 2 := by kernel_rfl
theorem intCells : Tryd.prog.cellsOf 3 = 1 := by kernel_rfl
def keyL (x y : Int) : Lit := .string (keyBytes [.int .i64 x, .int .i64 y])
theorem key_at {x y : Int} (wx : (Lit.int .i64 x).wf = true) (wy : (Lit.int .i64 y).wf = true) : keyOf Tryd.prog 80 (.agg #[.int .i64 x, .int .i64 y]) = some (keyL x y) := by
  unfold keyOf
  simp only [Tryd.underlying80]
  rw [if_pos (by rw [partKT]; simp [Value.formed, Tryd.underlying80]; kernel_rfl), partSize]
  unfold Program.keyLits
  simp only [Tryd.underlying80, Value.cells]
  rw [if_pos ⟨by rw [partCells]; rfl, by kernel_rfl⟩, List.mapM_cons, List.mapM_cons, List.mapM_nil]
  simp [intCells, Program.keyLits, Tryd.underlying3, wx, wy, keyL]
end Go.Proofs.YtichhbnpdhfimaaDoor
