/- Layer 5: what a shape says of a node: operands, the rest, ranges. -/
import Derived.Test.YtcbmncafmofcpaaKb
namespace Go.Proofs.Ytcbmncafmofcpaa
open Go.RowKit Go.Proofs.Ws
def isB (n l : Int) : Bool := decide (0 ≤ n) && decide (n < l)
theorem pIsB_any (n l : Int) (w : World) : Calls Try.prog 109 #[.int .i64 n, .int .i64 l] w fun e w' => e = .returned (.bool (isB n l)) ∧ w = w' := pIsBelow_any n l w
def shc (N E G O : Int) : Value := .agg #[.int .i64 N, .int .i64 E, .int .i64 G, .int .i64 O]
set_option maxHeartbeats 2000000 in
theorem pHasOps_any (N E G O idx : Int) (n : Nd) (w : World) : Calls Try.prog 88 #[shc N E G O, nv n, .int .i64 idx] w fun e w' =>
    e = .returned (.bool ((decide (O < 1) || isB n.x idx) && (decide (O < 2) || isB n.y idx))) ∧ Below w.heap.size w w' := by
  obtain ⟨op, i, e, g, x, y⟩ := n
  unfold shc nv
  have HB : Hid (∀ o o', Below w.heap.size w ((w.alloc o).alloc o')) := Lib.hid (fun o o' => ((Below.refl _ w).alloc (Nat.le_refl _) o).alloc (by simp) o')
  show Calls _ _ _ _ fun e w' => e = .returned (.bool ((decide (O < 1) || isB x idx) && (decide (O < 2) || isB y idx))) ∧ Below w.heap.size w w'
  obtain ⟨bx, hx⟩ : ∃ b, isB x idx = b := ⟨_, rfl⟩
  obtain ⟨by_, hy⟩ : ∃ b, isB y idx = b := ⟨_, rfl⟩
  obtain ⟨b1, h1⟩ : ∃ b, decide (O < 1) = b := ⟨_, rfl⟩
  obtain ⟨b2, h2⟩ : ∃ b, decide (O < 2) = b := ⟨_, rfl⟩
  rw [h1, h2, hx, hy]
  cases b1 <;> cases b2 <;> cases bx <;> cases by_
  all_goals
    go_enter Try.func88, Try.ntmps88
    go_wp2_with (first | (go_at_call 109; refine (pIsB_any _ _ _).mono ?_; rintro e w' ⟨rfl, rfl⟩))
    go_ret
    first
    | exact ⟨rfl, HB.out _ _⟩
    | exact ⟨ret_bool hx, HB.out _ _⟩
    | exact ⟨ret_bool hy, HB.out _ _⟩
end Go.Proofs.Ytcbmncafmofcpaa
