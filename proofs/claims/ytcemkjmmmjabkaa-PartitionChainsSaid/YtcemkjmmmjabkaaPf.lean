/- Layer 3: the keys of the map in Split: pairs of numbers. -/
import Derived.Test.YtcemkjmmmjabkaaPe
import Derived.Maps.OwnSet
import Derived.Maps.OwnOps
import Derived.Maps.Views
namespace Go.Proofs.Ytcemkjmmmjabkaa
open Go.RowKit Go.Proofs.Ws Go.Maps
theorem partU : ∃ fs, Try.prog.underlying 43 = some (.struct fs) := ⟨_, Try.underlying43⟩
theorem partKT : Try.prog.keyType 43 = true := by kernel_rfl
theorem partSize : Try.prog.types.size = (Try.prog.types.size - 1) + 1 := by kernel_rfl
theorem partLaid : laidOutB Try.prog = true := by kernel_rfl
theorem partLaw : Keyed Try.prog 43 :=
  Keyed.of_law (deep_law_laid partLaid (m := 9999) (by omega) (of_decide_eq_true (by kernel_rfl)) (by kernel_rfl) (by kernel_rfl))
theorem partCells : Try.prog.cellsOf 43 = 2 := by kernel_rfl
theorem intCells : Try.prog.cellsOf 3 = 1 := by kernel_rfl
def keyL (x y : Int) : Lit := .string (keyBytes [.int .i64 x, .int .i64 y])
theorem key_at {x y : Int} (wx : (Lit.int .i64 x).wf = true) (wy : (Lit.int .i64 y).wf = true) : keyOf Try.prog 43 (.agg #[.int .i64 x, .int .i64 y]) = some (keyL x y) := by
  unfold keyOf
  simp only [Try.underlying43]
  rw [if_pos (by rw [partKT]; simp [Value.formed, Try.underlying43]; kernel_rfl), partSize]
  unfold Program.keyLits
  simp only [Try.underlying43, Value.cells]
  rw [if_pos ⟨by rw [partCells]; rfl, by kernel_rfl⟩, List.mapM_cons, List.mapM_cons, List.mapM_nil]
  simp [intCells, Program.keyLits, Try.underlying3, wx, wy, keyL]
end Go.Proofs.Ytcemkjmmmjabkaa
