/- Layer 5: the reference's error of a node (operators without a range). -/
import Derived.Test.YthhkeobjjeldhaaGreatDoorJd
namespace Go.Proofs.YthhkeobjjeldhaaGreatDoor
open Go.RowKit Go.Proofs.Ws
theorem le_lt_dec (a b : Int) : (decide (0 ≤ a) && decide (a < b)) = (!decide (a < 0) && !decide (b ≤ a)) := by
  rw [Bool.eq_iff_iff]; simp
theorem le_le_dec (a : Int) : (decide (1 ≤ a) && decide (a ≤ 15)) = (!decide (a < 1) && !decide (16 ≤ a)) := by
  rw [Bool.eq_iff_iff]; simp; omega
theorem zero_dec (a : Int) : decide (a = 0) = !(a != 0) := by rw [Bool.eq_iff_iff]; simp
end Go.Proofs.YthhkeobjjeldhaaGreatDoor
