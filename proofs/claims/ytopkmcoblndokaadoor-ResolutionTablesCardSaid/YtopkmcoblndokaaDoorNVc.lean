/- Layer 5: the fields that a node does not use, and ranges. -/
import Derived.Test.YtopkmcoblndokaaDoorNVb
namespace Go.Proofs.YtopkmcoblndokaaDoor
open Go.RowKit Go.Proofs.Ws
def lrB (N E G O : Int) (n : Nd) : Bool := (decide (0 < O) || n.x == 0) && (decide (1 < O) || n.y == 0) && (decide (0 < N) || n.i == 0) && (decide (0 < E) || n.e == 0) && (decide (0 < G) || n.g == 0)
def irB (N E G : Int) (n : Nd) : Bool := (N == 0 || isB n.i N) && (E == 0 || isB n.e E) && (G == 0 || (decide (1 ≤ n.g) && decide (n.g ≤ G)))
theorem three (a b : Bool) : a = true ∨ (a = false ∧ b = true) ∨ (a = false ∧ b = false) := by cases a <;> cases b <;> simp
set_option maxHeartbeats 8000000 in
theorem pLeaves_any (N E G O : Int) (n : Nd) (w : World) : Calls Tryd.prog 65 #[shc N E G O, nv n] w fun e w' =>
    e = .returned (.bool (lrB N E G O n)) ∧ Below w.heap.size w w' := by
  obtain ⟨op, i, e, g, x, y⟩ := n
  unfold shc nv
  have HB : Hid (∀ o o', Below w.heap.size w ((w.alloc o).alloc o')) := Lib.hid (fun o o' => ((Below.refl _ w).alloc (Nat.le_refl _) o).alloc (by simp) o')
  rcases three (decide (0 < O)) (x == 0) with p0 | ⟨p0, q0⟩ | ⟨p0, q0⟩
  · rcases three (decide (1 < O)) (y == 0) with p1 | ⟨p1, q1⟩ | ⟨p1, q1⟩
    · rcases three (decide (0 < N)) (i == 0) with p2 | ⟨p2, q2⟩ | ⟨p2, q2⟩
      · rcases three (decide (0 < E)) (e == 0) with p3 | ⟨p3, q3⟩ | ⟨p3, q3⟩
        · rcases three (decide (0 < G)) (g == 0) with p4 | ⟨p4, q4⟩ | ⟨p4, q4⟩
          · rw [show lrB N E G O ⟨op, i, e, g, x, y⟩ = true from by simp [lrB, p0, p1, p2, p3, p4]]
            go_enter Tryd.func65, Tryd.ntmps65
            go_wp2
            go_ret
            first
            | exact ⟨rfl, HB.out _ _⟩
            | exact ⟨ret_bool p0, HB.out _ _⟩
            | exact ⟨ret_bool p1, HB.out _ _⟩
            | exact ⟨ret_bool p2, HB.out _ _⟩
            | exact ⟨ret_bool p3, HB.out _ _⟩
            | exact ⟨ret_bool p4, HB.out _ _⟩
          · rw [show lrB N E G O ⟨op, i, e, g, x, y⟩ = true from by simp [lrB, p0, p1, p2, p3, p4, q4]]
            go_enter Tryd.func65, Tryd.ntmps65
            go_wp2
            go_ret
            first
            | exact ⟨rfl, HB.out _ _⟩
            | exact ⟨ret_bool p0, HB.out _ _⟩
            | exact ⟨ret_bool p1, HB.out _ _⟩
            | exact ⟨ret_bool p2, HB.out _ _⟩
            | exact ⟨ret_bool p3, HB.out _ _⟩
            | exact ⟨ret_bool p4, HB.out _ _⟩
            | exact ⟨ret_bool q4, HB.out _ _⟩
          · rw [show lrB N E G O ⟨op, i, e, g, x, y⟩ = false from by simp [lrB, p0, p1, p2, p3, p4, q4]]
            go_enter Tryd.func65, Tryd.ntmps65
            go_wp2
            go_ret
            first
            | exact ⟨rfl, HB.out _ _⟩
            | exact ⟨ret_bool p0, HB.out _ _⟩
            | exact ⟨ret_bool p1, HB.out _ _⟩
            | exact ⟨ret_bool p2, HB.out _ _⟩
            | exact ⟨ret_bool p3, HB.out _ _⟩
            | exact ⟨ret_bool p4, HB.out _ _⟩
            | exact ⟨ret_bool q4, HB.out _ _⟩
        · rcases three (decide (0 < G)) (g == 0) with p4 | ⟨p4, q4⟩ | ⟨p4, q4⟩
          · rw [show lrB N E G O ⟨op, i, e, g, x, y⟩ = true from by simp [lrB, p0, p1, p2, p3, q3, p4]]
            go_enter Tryd.func65, Tryd.ntmps65
            go_wp2
            go_ret
            first
            | exact ⟨rfl, HB.out _ _⟩
            | exact ⟨ret_bool p0, HB.out _ _⟩
            | exact ⟨ret_bool p1, HB.out _ _⟩
            | exact ⟨ret_bool p2, HB.out _ _⟩
            | exact ⟨ret_bool p3, HB.out _ _⟩
            | exact ⟨ret_bool q3, HB.out _ _⟩
            | exact ⟨ret_bool p4, HB.out _ _⟩
          · rw [show lrB N E G O ⟨op, i, e, g, x, y⟩ = true from by simp [lrB, p0, p1, p2, p3, q3, p4, q4]]
            go_enter Tryd.func65, Tryd.ntmps65
            go_wp2
            go_ret
            first
            | exact ⟨rfl, HB.out _ _⟩
            | exact ⟨ret_bool p0, HB.out _ _⟩
            | exact ⟨ret_bool p1, HB.out _ _⟩
            | exact ⟨ret_bool p2, HB.out _ _⟩
            | exact ⟨ret_bool p3, HB.out _ _⟩
            | exact ⟨ret_bool q3, HB.out _ _⟩
            | exact ⟨ret_bool p4, HB.out _ _⟩
            | exact ⟨ret_bool q4, HB.out _ _⟩
          · rw [show lrB N E G O ⟨op, i, e, g, x, y⟩ = false from by simp [lrB, p0, p1, p2, p3, q3, p4, q4]]
            go_enter Tryd.func65, Tryd.ntmps65
            go_wp2
            go_ret
            first
            | exact ⟨rfl, HB.out _ _⟩
            | exact ⟨ret_bool p0, HB.out _ _⟩
            | exact ⟨ret_bool p1, HB.out _ _⟩
            | exact ⟨ret_bool p2, HB.out _ _⟩
            | exact ⟨ret_bool p3, HB.out _ _⟩
            | exact ⟨ret_bool q3, HB.out _ _⟩
            | exact ⟨ret_bool p4, HB.out _ _⟩
            | exact ⟨ret_bool q4, HB.out _ _⟩
        · rw [show lrB N E G O ⟨op, i, e, g, x, y⟩ = false from by simp [lrB, p0, p1, p2, p3, q3]]
          go_enter Tryd.func65, Tryd.ntmps65
          go_wp2
          go_ret
          first
          | exact ⟨rfl, HB.out _ _⟩
          | exact ⟨ret_bool p0, HB.out _ _⟩
          | exact ⟨ret_bool p1, HB.out _ _⟩
          | exact ⟨ret_bool p2, HB.out _ _⟩
          | exact ⟨ret_bool p3, HB.out _ _⟩
          | exact ⟨ret_bool q3, HB.out _ _⟩
      · rcases three (decide (0 < E)) (e == 0) with p3 | ⟨p3, q3⟩ | ⟨p3, q3⟩
        · rcases three (decide (0 < G)) (g == 0) with p4 | ⟨p4, q4⟩ | ⟨p4, q4⟩
          · rw [show lrB N E G O ⟨op, i, e, g, x, y⟩ = true from by simp [lrB, p0, p1, p2, q2, p3, p4]]
            go_enter Tryd.func65, Tryd.ntmps65
            go_wp2
            go_ret
            first
            | exact ⟨rfl, HB.out _ _⟩
            | exact ⟨ret_bool p0, HB.out _ _⟩
            | exact ⟨ret_bool p1, HB.out _ _⟩
            | exact ⟨ret_bool p2, HB.out _ _⟩
            | exact ⟨ret_bool q2, HB.out _ _⟩
            | exact ⟨ret_bool p3, HB.out _ _⟩
            | exact ⟨ret_bool p4, HB.out _ _⟩
          · rw [show lrB N E G O ⟨op, i, e, g, x, y⟩ = true from by simp [lrB, p0, p1, p2, q2, p3, p4, q4]]
            go_enter Tryd.func65, Tryd.ntmps65
            go_wp2
            go_ret
            first
            | exact ⟨rfl, HB.out _ _⟩
            | exact ⟨ret_bool p0, HB.out _ _⟩
            | exact ⟨ret_bool p1, HB.out _ _⟩
            | exact ⟨ret_bool p2, HB.out _ _⟩
            | exact ⟨ret_bool q2, HB.out _ _⟩
            | exact ⟨ret_bool p3, HB.out _ _⟩
            | exact ⟨ret_bool p4, HB.out _ _⟩
            | exact ⟨ret_bool q4, HB.out _ _⟩
          · rw [show lrB N E G O ⟨op, i, e, g, x, y⟩ = false from by simp [lrB, p0, p1, p2, q2, p3, p4, q4]]
            go_enter Tryd.func65, Tryd.ntmps65
            go_wp2
            go_ret
            first
            | exact ⟨rfl, HB.out _ _⟩
            | exact ⟨ret_bool p0, HB.out _ _⟩
            | exact ⟨ret_bool p1, HB.out _ _⟩
            | exact ⟨ret_bool p2, HB.out _ _⟩
            | exact ⟨ret_bool q2, HB.out _ _⟩
            | exact ⟨ret_bool p3, HB.out _ _⟩
            | exact ⟨ret_bool p4, HB.out _ _⟩
            | exact ⟨ret_bool q4, HB.out _ _⟩
        · rcases three (decide (0 < G)) (g == 0) with p4 | ⟨p4, q4⟩ | ⟨p4, q4⟩
          · rw [show lrB N E G O ⟨op, i, e, g, x, y⟩ = true from by simp [lrB, p0, p1, p2, q2, p3, q3, p4]]
            go_enter Tryd.func65, Tryd.ntmps65
            go_wp2
            go_ret
            first
            | exact ⟨rfl, HB.out _ _⟩
            | exact ⟨ret_bool p0, HB.out _ _⟩
            | exact ⟨ret_bool p1, HB.out _ _⟩
            | exact ⟨ret_bool p2, HB.out _ _⟩
            | exact ⟨ret_bool q2, HB.out _ _⟩
            | exact ⟨ret_bool p3, HB.out _ _⟩
            | exact ⟨ret_bool q3, HB.out _ _⟩
            | exact ⟨ret_bool p4, HB.out _ _⟩
          · rw [show lrB N E G O ⟨op, i, e, g, x, y⟩ = true from by simp [lrB, p0, p1, p2, q2, p3, q3, p4, q4]]
            go_enter Tryd.func65, Tryd.ntmps65
            go_wp2
            go_ret
            first
            | exact ⟨rfl, HB.out _ _⟩
            | exact ⟨ret_bool p0, HB.out _ _⟩
            | exact ⟨ret_bool p1, HB.out _ _⟩
            | exact ⟨ret_bool p2, HB.out _ _⟩
            | exact ⟨ret_bool q2, HB.out _ _⟩
            | exact ⟨ret_bool p3, HB.out _ _⟩
            | exact ⟨ret_bool q3, HB.out _ _⟩
            | exact ⟨ret_bool p4, HB.out _ _⟩
            | exact ⟨ret_bool q4, HB.out _ _⟩
          · rw [show lrB N E G O ⟨op, i, e, g, x, y⟩ = false from by simp [lrB, p0, p1, p2, q2, p3, q3, p4, q4]]
            go_enter Tryd.func65, Tryd.ntmps65
            go_wp2
            go_ret
            first
            | exact ⟨rfl, HB.out _ _⟩
            | exact ⟨ret_bool p0, HB.out _ _⟩
            | exact ⟨ret_bool p1, HB.out _ _⟩
            | exact ⟨ret_bool p2, HB.out _ _⟩
            | exact ⟨ret_bool q2, HB.out _ _⟩
            | exact ⟨ret_bool p3, HB.out _ _⟩
            | exact ⟨ret_bool q3, HB.out _ _⟩
            | exact ⟨ret_bool p4, HB.out _ _⟩
            | exact ⟨ret_bool q4, HB.out _ _⟩
        · rw [show lrB N E G O ⟨op, i, e, g, x, y⟩ = false from by simp [lrB, p0, p1, p2, q2, p3, q3]]
          go_enter Tryd.func65, Tryd.ntmps65
          go_wp2
          go_ret
          first
          | exact ⟨rfl, HB.out _ _⟩
          | exact ⟨ret_bool p0, HB.out _ _⟩
          | exact ⟨ret_bool p1, HB.out _ _⟩
          | exact ⟨ret_bool p2, HB.out _ _⟩
          | exact ⟨ret_bool q2, HB.out _ _⟩
          | exact ⟨ret_bool p3, HB.out _ _⟩
          | exact ⟨ret_bool q3, HB.out _ _⟩
      · rw [show lrB N E G O ⟨op, i, e, g, x, y⟩ = false from by simp [lrB, p0, p1, p2, q2]]
        go_enter Tryd.func65, Tryd.ntmps65
        go_wp2
        go_ret
        first
        | exact ⟨rfl, HB.out _ _⟩
        | exact ⟨ret_bool p0, HB.out _ _⟩
        | exact ⟨ret_bool p1, HB.out _ _⟩
        | exact ⟨ret_bool p2, HB.out _ _⟩
        | exact ⟨ret_bool q2, HB.out _ _⟩
    · rcases three (decide (0 < N)) (i == 0) with p2 | ⟨p2, q2⟩ | ⟨p2, q2⟩
      · rcases three (decide (0 < E)) (e == 0) with p3 | ⟨p3, q3⟩ | ⟨p3, q3⟩
        · rcases three (decide (0 < G)) (g == 0) with p4 | ⟨p4, q4⟩ | ⟨p4, q4⟩
          · rw [show lrB N E G O ⟨op, i, e, g, x, y⟩ = true from by simp [lrB, p0, p1, q1, p2, p3, p4]]
            go_enter Tryd.func65, Tryd.ntmps65
            go_wp2
            go_ret
            first
            | exact ⟨rfl, HB.out _ _⟩
            | exact ⟨ret_bool p0, HB.out _ _⟩
            | exact ⟨ret_bool p1, HB.out _ _⟩
            | exact ⟨ret_bool q1, HB.out _ _⟩
            | exact ⟨ret_bool p2, HB.out _ _⟩
            | exact ⟨ret_bool p3, HB.out _ _⟩
            | exact ⟨ret_bool p4, HB.out _ _⟩
          · rw [show lrB N E G O ⟨op, i, e, g, x, y⟩ = true from by simp [lrB, p0, p1, q1, p2, p3, p4, q4]]
            go_enter Tryd.func65, Tryd.ntmps65
            go_wp2
            go_ret
            first
            | exact ⟨rfl, HB.out _ _⟩
            | exact ⟨ret_bool p0, HB.out _ _⟩
            | exact ⟨ret_bool p1, HB.out _ _⟩
            | exact ⟨ret_bool q1, HB.out _ _⟩
            | exact ⟨ret_bool p2, HB.out _ _⟩
            | exact ⟨ret_bool p3, HB.out _ _⟩
            | exact ⟨ret_bool p4, HB.out _ _⟩
            | exact ⟨ret_bool q4, HB.out _ _⟩
          · rw [show lrB N E G O ⟨op, i, e, g, x, y⟩ = false from by simp [lrB, p0, p1, q1, p2, p3, p4, q4]]
            go_enter Tryd.func65, Tryd.ntmps65
            go_wp2
            go_ret
            first
            | exact ⟨rfl, HB.out _ _⟩
            | exact ⟨ret_bool p0, HB.out _ _⟩
            | exact ⟨ret_bool p1, HB.out _ _⟩
            | exact ⟨ret_bool q1, HB.out _ _⟩
            | exact ⟨ret_bool p2, HB.out _ _⟩
            | exact ⟨ret_bool p3, HB.out _ _⟩
            | exact ⟨ret_bool p4, HB.out _ _⟩
            | exact ⟨ret_bool q4, HB.out _ _⟩
        · rcases three (decide (0 < G)) (g == 0) with p4 | ⟨p4, q4⟩ | ⟨p4, q4⟩
          · rw [show lrB N E G O ⟨op, i, e, g, x, y⟩ = true from by simp [lrB, p0, p1, q1, p2, p3, q3, p4]]
            go_enter Tryd.func65, Tryd.ntmps65
            go_wp2
            go_ret
            first
            | exact ⟨rfl, HB.out _ _⟩
            | exact ⟨ret_bool p0, HB.out _ _⟩
            | exact ⟨ret_bool p1, HB.out _ _⟩
            | exact ⟨ret_bool q1, HB.out _ _⟩
            | exact ⟨ret_bool p2, HB.out _ _⟩
            | exact ⟨ret_bool p3, HB.out _ _⟩
            | exact ⟨ret_bool q3, HB.out _ _⟩
            | exact ⟨ret_bool p4, HB.out _ _⟩
          · rw [show lrB N E G O ⟨op, i, e, g, x, y⟩ = true from by simp [lrB, p0, p1, q1, p2, p3, q3, p4, q4]]
            go_enter Tryd.func65, Tryd.ntmps65
            go_wp2
            go_ret
            first
            | exact ⟨rfl, HB.out _ _⟩
            | exact ⟨ret_bool p0, HB.out _ _⟩
            | exact ⟨ret_bool p1, HB.out _ _⟩
            | exact ⟨ret_bool q1, HB.out _ _⟩
            | exact ⟨ret_bool p2, HB.out _ _⟩
            | exact ⟨ret_bool p3, HB.out _ _⟩
            | exact ⟨ret_bool q3, HB.out _ _⟩
            | exact ⟨ret_bool p4, HB.out _ _⟩
            | exact ⟨ret_bool q4, HB.out _ _⟩
          · rw [show lrB N E G O ⟨op, i, e, g, x, y⟩ = false from by simp [lrB, p0, p1, q1, p2, p3, q3, p4, q4]]
            go_enter Tryd.func65, Tryd.ntmps65
            go_wp2
            go_ret
            first
            | exact ⟨rfl, HB.out _ _⟩
            | exact ⟨ret_bool p0, HB.out _ _⟩
            | exact ⟨ret_bool p1, HB.out _ _⟩
            | exact ⟨ret_bool q1, HB.out _ _⟩
            | exact ⟨ret_bool p2, HB.out _ _⟩
            | exact ⟨ret_bool p3, HB.out _ _⟩
            | exact ⟨ret_bool q3, HB.out _ _⟩
            | exact ⟨ret_bool p4, HB.out _ _⟩
            | exact ⟨ret_bool q4, HB.out _ _⟩
        · rw [show lrB N E G O ⟨op, i, e, g, x, y⟩ = false from by simp [lrB, p0, p1, q1, p2, p3, q3]]
          go_enter Tryd.func65, Tryd.ntmps65
          go_wp2
          go_ret
          first
          | exact ⟨rfl, HB.out _ _⟩
          | exact ⟨ret_bool p0, HB.out _ _⟩
          | exact ⟨ret_bool p1, HB.out _ _⟩
          | exact ⟨ret_bool q1, HB.out _ _⟩
          | exact ⟨ret_bool p2, HB.out _ _⟩
          | exact ⟨ret_bool p3, HB.out _ _⟩
          | exact ⟨ret_bool q3, HB.out _ _⟩
      · rcases three (decide (0 < E)) (e == 0) with p3 | ⟨p3, q3⟩ | ⟨p3, q3⟩
        · rcases three (decide (0 < G)) (g == 0) with p4 | ⟨p4, q4⟩ | ⟨p4, q4⟩
          · rw [show lrB N E G O ⟨op, i, e, g, x, y⟩ = true from by simp [lrB, p0, p1, q1, p2, q2, p3, p4]]
            go_enter Tryd.func65, Tryd.ntmps65
            go_wp2
            go_ret
            first
            | exact ⟨rfl, HB.out _ _⟩
            | exact ⟨ret_bool p0, HB.out _ _⟩
            | exact ⟨ret_bool p1, HB.out _ _⟩
            | exact ⟨ret_bool q1, HB.out _ _⟩
            | exact ⟨ret_bool p2, HB.out _ _⟩
            | exact ⟨ret_bool q2, HB.out _ _⟩
            | exact ⟨ret_bool p3, HB.out _ _⟩
            | exact ⟨ret_bool p4, HB.out _ _⟩
          · rw [show lrB N E G O ⟨op, i, e, g, x, y⟩ = true from by simp [lrB, p0, p1, q1, p2, q2, p3, p4, q4]]
            go_enter Tryd.func65, Tryd.ntmps65
            go_wp2
            go_ret
            first
            | exact ⟨rfl, HB.out _ _⟩
            | exact ⟨ret_bool p0, HB.out _ _⟩
            | exact ⟨ret_bool p1, HB.out _ _⟩
            | exact ⟨ret_bool q1, HB.out _ _⟩
            | exact ⟨ret_bool p2, HB.out _ _⟩
            | exact ⟨ret_bool q2, HB.out _ _⟩
            | exact ⟨ret_bool p3, HB.out _ _⟩
            | exact ⟨ret_bool p4, HB.out _ _⟩
            | exact ⟨ret_bool q4, HB.out _ _⟩
          · rw [show lrB N E G O ⟨op, i, e, g, x, y⟩ = false from by simp [lrB, p0, p1, q1, p2, q2, p3, p4, q4]]
            go_enter Tryd.func65, Tryd.ntmps65
            go_wp2
            go_ret
            first
            | exact ⟨rfl, HB.out _ _⟩
            | exact ⟨ret_bool p0, HB.out _ _⟩
            | exact ⟨ret_bool p1, HB.out _ _⟩
            | exact ⟨ret_bool q1, HB.out _ _⟩
            | exact ⟨ret_bool p2, HB.out _ _⟩
            | exact ⟨ret_bool q2, HB.out _ _⟩
            | exact ⟨ret_bool p3, HB.out _ _⟩
            | exact ⟨ret_bool p4, HB.out _ _⟩
            | exact ⟨ret_bool q4, HB.out _ _⟩
        · rcases three (decide (0 < G)) (g == 0) with p4 | ⟨p4, q4⟩ | ⟨p4, q4⟩
          · rw [show lrB N E G O ⟨op, i, e, g, x, y⟩ = true from by simp [lrB, p0, p1, q1, p2, q2, p3, q3, p4]]
            go_enter Tryd.func65, Tryd.ntmps65
            go_wp2
            go_ret
            first
            | exact ⟨rfl, HB.out _ _⟩
            | exact ⟨ret_bool p0, HB.out _ _⟩
            | exact ⟨ret_bool p1, HB.out _ _⟩
            | exact ⟨ret_bool q1, HB.out _ _⟩
            | exact ⟨ret_bool p2, HB.out _ _⟩
            | exact ⟨ret_bool q2, HB.out _ _⟩
            | exact ⟨ret_bool p3, HB.out _ _⟩
            | exact ⟨ret_bool q3, HB.out _ _⟩
            | exact ⟨ret_bool p4, HB.out _ _⟩
          · rw [show lrB N E G O ⟨op, i, e, g, x, y⟩ = true from by simp [lrB, p0, p1, q1, p2, q2, p3, q3, p4, q4]]
            go_enter Tryd.func65, Tryd.ntmps65
            go_wp2
            go_ret
            first
            | exact ⟨rfl, HB.out _ _⟩
            | exact ⟨ret_bool p0, HB.out _ _⟩
            | exact ⟨ret_bool p1, HB.out _ _⟩
            | exact ⟨ret_bool q1, HB.out _ _⟩
            | exact ⟨ret_bool p2, HB.out _ _⟩
            | exact ⟨ret_bool q2, HB.out _ _⟩
            | exact ⟨ret_bool p3, HB.out _ _⟩
            | exact ⟨ret_bool q3, HB.out _ _⟩
            | exact ⟨ret_bool p4, HB.out _ _⟩
            | exact ⟨ret_bool q4, HB.out _ _⟩
          · rw [show lrB N E G O ⟨op, i, e, g, x, y⟩ = false from by simp [lrB, p0, p1, q1, p2, q2, p3, q3, p4, q4]]
            go_enter Tryd.func65, Tryd.ntmps65
            go_wp2
            go_ret
            first
            | exact ⟨rfl, HB.out _ _⟩
            | exact ⟨ret_bool p0, HB.out _ _⟩
            | exact ⟨ret_bool p1, HB.out _ _⟩
            | exact ⟨ret_bool q1, HB.out _ _⟩
            | exact ⟨ret_bool p2, HB.out _ _⟩
            | exact ⟨ret_bool q2, HB.out _ _⟩
            | exact ⟨ret_bool p3, HB.out _ _⟩
            | exact ⟨ret_bool q3, HB.out _ _⟩
            | exact ⟨ret_bool p4, HB.out _ _⟩
            | exact ⟨ret_bool q4, HB.out _ _⟩
        · rw [show lrB N E G O ⟨op, i, e, g, x, y⟩ = false from by simp [lrB, p0, p1, q1, p2, q2, p3, q3]]
          go_enter Tryd.func65, Tryd.ntmps65
          go_wp2
          go_ret
          first
          | exact ⟨rfl, HB.out _ _⟩
          | exact ⟨ret_bool p0, HB.out _ _⟩
          | exact ⟨ret_bool p1, HB.out _ _⟩
          | exact ⟨ret_bool q1, HB.out _ _⟩
          | exact ⟨ret_bool p2, HB.out _ _⟩
          | exact ⟨ret_bool q2, HB.out _ _⟩
          | exact ⟨ret_bool p3, HB.out _ _⟩
          | exact ⟨ret_bool q3, HB.out _ _⟩
      · rw [show lrB N E G O ⟨op, i, e, g, x, y⟩ = false from by simp [lrB, p0, p1, q1, p2, q2]]
        go_enter Tryd.func65, Tryd.ntmps65
        go_wp2
        go_ret
        first
        | exact ⟨rfl, HB.out _ _⟩
        | exact ⟨ret_bool p0, HB.out _ _⟩
        | exact ⟨ret_bool p1, HB.out _ _⟩
        | exact ⟨ret_bool q1, HB.out _ _⟩
        | exact ⟨ret_bool p2, HB.out _ _⟩
        | exact ⟨ret_bool q2, HB.out _ _⟩
    · rw [show lrB N E G O ⟨op, i, e, g, x, y⟩ = false from by simp [lrB, p0, p1, q1]]
      go_enter Tryd.func65, Tryd.ntmps65
      go_wp2
      go_ret
      first
      | exact ⟨rfl, HB.out _ _⟩
      | exact ⟨ret_bool p0, HB.out _ _⟩
      | exact ⟨ret_bool p1, HB.out _ _⟩
      | exact ⟨ret_bool q1, HB.out _ _⟩
  · rcases three (decide (1 < O)) (y == 0) with p1 | ⟨p1, q1⟩ | ⟨p1, q1⟩
    · rcases three (decide (0 < N)) (i == 0) with p2 | ⟨p2, q2⟩ | ⟨p2, q2⟩
      · rcases three (decide (0 < E)) (e == 0) with p3 | ⟨p3, q3⟩ | ⟨p3, q3⟩
        · rcases three (decide (0 < G)) (g == 0) with p4 | ⟨p4, q4⟩ | ⟨p4, q4⟩
          · rw [show lrB N E G O ⟨op, i, e, g, x, y⟩ = true from by simp [lrB, p0, q0, p1, p2, p3, p4]]
            go_enter Tryd.func65, Tryd.ntmps65
            go_wp2
            go_ret
            first
            | exact ⟨rfl, HB.out _ _⟩
            | exact ⟨ret_bool p0, HB.out _ _⟩
            | exact ⟨ret_bool q0, HB.out _ _⟩
            | exact ⟨ret_bool p1, HB.out _ _⟩
            | exact ⟨ret_bool p2, HB.out _ _⟩
            | exact ⟨ret_bool p3, HB.out _ _⟩
            | exact ⟨ret_bool p4, HB.out _ _⟩
          · rw [show lrB N E G O ⟨op, i, e, g, x, y⟩ = true from by simp [lrB, p0, q0, p1, p2, p3, p4, q4]]
            go_enter Tryd.func65, Tryd.ntmps65
            go_wp2
            go_ret
            first
            | exact ⟨rfl, HB.out _ _⟩
            | exact ⟨ret_bool p0, HB.out _ _⟩
            | exact ⟨ret_bool q0, HB.out _ _⟩
            | exact ⟨ret_bool p1, HB.out _ _⟩
            | exact ⟨ret_bool p2, HB.out _ _⟩
            | exact ⟨ret_bool p3, HB.out _ _⟩
            | exact ⟨ret_bool p4, HB.out _ _⟩
            | exact ⟨ret_bool q4, HB.out _ _⟩
          · rw [show lrB N E G O ⟨op, i, e, g, x, y⟩ = false from by simp [lrB, p0, q0, p1, p2, p3, p4, q4]]
            go_enter Tryd.func65, Tryd.ntmps65
            go_wp2
            go_ret
            first
            | exact ⟨rfl, HB.out _ _⟩
            | exact ⟨ret_bool p0, HB.out _ _⟩
            | exact ⟨ret_bool q0, HB.out _ _⟩
            | exact ⟨ret_bool p1, HB.out _ _⟩
            | exact ⟨ret_bool p2, HB.out _ _⟩
            | exact ⟨ret_bool p3, HB.out _ _⟩
            | exact ⟨ret_bool p4, HB.out _ _⟩
            | exact ⟨ret_bool q4, HB.out _ _⟩
        · rcases three (decide (0 < G)) (g == 0) with p4 | ⟨p4, q4⟩ | ⟨p4, q4⟩
          · rw [show lrB N E G O ⟨op, i, e, g, x, y⟩ = true from by simp [lrB, p0, q0, p1, p2, p3, q3, p4]]
            go_enter Tryd.func65, Tryd.ntmps65
            go_wp2
            go_ret
            first
            | exact ⟨rfl, HB.out _ _⟩
            | exact ⟨ret_bool p0, HB.out _ _⟩
            | exact ⟨ret_bool q0, HB.out _ _⟩
            | exact ⟨ret_bool p1, HB.out _ _⟩
            | exact ⟨ret_bool p2, HB.out _ _⟩
            | exact ⟨ret_bool p3, HB.out _ _⟩
            | exact ⟨ret_bool q3, HB.out _ _⟩
            | exact ⟨ret_bool p4, HB.out _ _⟩
          · rw [show lrB N E G O ⟨op, i, e, g, x, y⟩ = true from by simp [lrB, p0, q0, p1, p2, p3, q3, p4, q4]]
            go_enter Tryd.func65, Tryd.ntmps65
            go_wp2
            go_ret
            first
            | exact ⟨rfl, HB.out _ _⟩
            | exact ⟨ret_bool p0, HB.out _ _⟩
            | exact ⟨ret_bool q0, HB.out _ _⟩
            | exact ⟨ret_bool p1, HB.out _ _⟩
            | exact ⟨ret_bool p2, HB.out _ _⟩
            | exact ⟨ret_bool p3, HB.out _ _⟩
            | exact ⟨ret_bool q3, HB.out _ _⟩
            | exact ⟨ret_bool p4, HB.out _ _⟩
            | exact ⟨ret_bool q4, HB.out _ _⟩
          · rw [show lrB N E G O ⟨op, i, e, g, x, y⟩ = false from by simp [lrB, p0, q0, p1, p2, p3, q3, p4, q4]]
            go_enter Tryd.func65, Tryd.ntmps65
            go_wp2
            go_ret
            first
            | exact ⟨rfl, HB.out _ _⟩
            | exact ⟨ret_bool p0, HB.out _ _⟩
            | exact ⟨ret_bool q0, HB.out _ _⟩
            | exact ⟨ret_bool p1, HB.out _ _⟩
            | exact ⟨ret_bool p2, HB.out _ _⟩
            | exact ⟨ret_bool p3, HB.out _ _⟩
            | exact ⟨ret_bool q3, HB.out _ _⟩
            | exact ⟨ret_bool p4, HB.out _ _⟩
            | exact ⟨ret_bool q4, HB.out _ _⟩
        · rw [show lrB N E G O ⟨op, i, e, g, x, y⟩ = false from by simp [lrB, p0, q0, p1, p2, p3, q3]]
          go_enter Tryd.func65, Tryd.ntmps65
          go_wp2
          go_ret
          first
          | exact ⟨rfl, HB.out _ _⟩
          | exact ⟨ret_bool p0, HB.out _ _⟩
          | exact ⟨ret_bool q0, HB.out _ _⟩
          | exact ⟨ret_bool p1, HB.out _ _⟩
          | exact ⟨ret_bool p2, HB.out _ _⟩
          | exact ⟨ret_bool p3, HB.out _ _⟩
          | exact ⟨ret_bool q3, HB.out _ _⟩
      · rcases three (decide (0 < E)) (e == 0) with p3 | ⟨p3, q3⟩ | ⟨p3, q3⟩
        · rcases three (decide (0 < G)) (g == 0) with p4 | ⟨p4, q4⟩ | ⟨p4, q4⟩
          · rw [show lrB N E G O ⟨op, i, e, g, x, y⟩ = true from by simp [lrB, p0, q0, p1, p2, q2, p3, p4]]
            go_enter Tryd.func65, Tryd.ntmps65
            go_wp2
            go_ret
            first
            | exact ⟨rfl, HB.out _ _⟩
            | exact ⟨ret_bool p0, HB.out _ _⟩
            | exact ⟨ret_bool q0, HB.out _ _⟩
            | exact ⟨ret_bool p1, HB.out _ _⟩
            | exact ⟨ret_bool p2, HB.out _ _⟩
            | exact ⟨ret_bool q2, HB.out _ _⟩
            | exact ⟨ret_bool p3, HB.out _ _⟩
            | exact ⟨ret_bool p4, HB.out _ _⟩
          · rw [show lrB N E G O ⟨op, i, e, g, x, y⟩ = true from by simp [lrB, p0, q0, p1, p2, q2, p3, p4, q4]]
            go_enter Tryd.func65, Tryd.ntmps65
            go_wp2
            go_ret
            first
            | exact ⟨rfl, HB.out _ _⟩
            | exact ⟨ret_bool p0, HB.out _ _⟩
            | exact ⟨ret_bool q0, HB.out _ _⟩
            | exact ⟨ret_bool p1, HB.out _ _⟩
            | exact ⟨ret_bool p2, HB.out _ _⟩
            | exact ⟨ret_bool q2, HB.out _ _⟩
            | exact ⟨ret_bool p3, HB.out _ _⟩
            | exact ⟨ret_bool p4, HB.out _ _⟩
            | exact ⟨ret_bool q4, HB.out _ _⟩
          · rw [show lrB N E G O ⟨op, i, e, g, x, y⟩ = false from by simp [lrB, p0, q0, p1, p2, q2, p3, p4, q4]]
            go_enter Tryd.func65, Tryd.ntmps65
            go_wp2
            go_ret
            first
            | exact ⟨rfl, HB.out _ _⟩
            | exact ⟨ret_bool p0, HB.out _ _⟩
            | exact ⟨ret_bool q0, HB.out _ _⟩
            | exact ⟨ret_bool p1, HB.out _ _⟩
            | exact ⟨ret_bool p2, HB.out _ _⟩
            | exact ⟨ret_bool q2, HB.out _ _⟩
            | exact ⟨ret_bool p3, HB.out _ _⟩
            | exact ⟨ret_bool p4, HB.out _ _⟩
            | exact ⟨ret_bool q4, HB.out _ _⟩
        · rcases three (decide (0 < G)) (g == 0) with p4 | ⟨p4, q4⟩ | ⟨p4, q4⟩
          · rw [show lrB N E G O ⟨op, i, e, g, x, y⟩ = true from by simp [lrB, p0, q0, p1, p2, q2, p3, q3, p4]]
            go_enter Tryd.func65, Tryd.ntmps65
            go_wp2
            go_ret
            first
            | exact ⟨rfl, HB.out _ _⟩
            | exact ⟨ret_bool p0, HB.out _ _⟩
            | exact ⟨ret_bool q0, HB.out _ _⟩
            | exact ⟨ret_bool p1, HB.out _ _⟩
            | exact ⟨ret_bool p2, HB.out _ _⟩
            | exact ⟨ret_bool q2, HB.out _ _⟩
            | exact ⟨ret_bool p3, HB.out _ _⟩
            | exact ⟨ret_bool q3, HB.out _ _⟩
            | exact ⟨ret_bool p4, HB.out _ _⟩
          · rw [show lrB N E G O ⟨op, i, e, g, x, y⟩ = true from by simp [lrB, p0, q0, p1, p2, q2, p3, q3, p4, q4]]
            go_enter Tryd.func65, Tryd.ntmps65
            go_wp2
            go_ret
            first
            | exact ⟨rfl, HB.out _ _⟩
            | exact ⟨ret_bool p0, HB.out _ _⟩
            | exact ⟨ret_bool q0, HB.out _ _⟩
            | exact ⟨ret_bool p1, HB.out _ _⟩
            | exact ⟨ret_bool p2, HB.out _ _⟩
            | exact ⟨ret_bool q2, HB.out _ _⟩
            | exact ⟨ret_bool p3, HB.out _ _⟩
            | exact ⟨ret_bool q3, HB.out _ _⟩
            | exact ⟨ret_bool p4, HB.out _ _⟩
            | exact ⟨ret_bool q4, HB.out _ _⟩
          · rw [show lrB N E G O ⟨op, i, e, g, x, y⟩ = false from by simp [lrB, p0, q0, p1, p2, q2, p3, q3, p4, q4]]
            go_enter Tryd.func65, Tryd.ntmps65
            go_wp2
            go_ret
            first
            | exact ⟨rfl, HB.out _ _⟩
            | exact ⟨ret_bool p0, HB.out _ _⟩
            | exact ⟨ret_bool q0, HB.out _ _⟩
            | exact ⟨ret_bool p1, HB.out _ _⟩
            | exact ⟨ret_bool p2, HB.out _ _⟩
            | exact ⟨ret_bool q2, HB.out _ _⟩
            | exact ⟨ret_bool p3, HB.out _ _⟩
            | exact ⟨ret_bool q3, HB.out _ _⟩
            | exact ⟨ret_bool p4, HB.out _ _⟩
            | exact ⟨ret_bool q4, HB.out _ _⟩
        · rw [show lrB N E G O ⟨op, i, e, g, x, y⟩ = false from by simp [lrB, p0, q0, p1, p2, q2, p3, q3]]
          go_enter Tryd.func65, Tryd.ntmps65
          go_wp2
          go_ret
          first
          | exact ⟨rfl, HB.out _ _⟩
          | exact ⟨ret_bool p0, HB.out _ _⟩
          | exact ⟨ret_bool q0, HB.out _ _⟩
          | exact ⟨ret_bool p1, HB.out _ _⟩
          | exact ⟨ret_bool p2, HB.out _ _⟩
          | exact ⟨ret_bool q2, HB.out _ _⟩
          | exact ⟨ret_bool p3, HB.out _ _⟩
          | exact ⟨ret_bool q3, HB.out _ _⟩
      · rw [show lrB N E G O ⟨op, i, e, g, x, y⟩ = false from by simp [lrB, p0, q0, p1, p2, q2]]
        go_enter Tryd.func65, Tryd.ntmps65
        go_wp2
        go_ret
        first
        | exact ⟨rfl, HB.out _ _⟩
        | exact ⟨ret_bool p0, HB.out _ _⟩
        | exact ⟨ret_bool q0, HB.out _ _⟩
        | exact ⟨ret_bool p1, HB.out _ _⟩
        | exact ⟨ret_bool p2, HB.out _ _⟩
        | exact ⟨ret_bool q2, HB.out _ _⟩
    · rcases three (decide (0 < N)) (i == 0) with p2 | ⟨p2, q2⟩ | ⟨p2, q2⟩
      · rcases three (decide (0 < E)) (e == 0) with p3 | ⟨p3, q3⟩ | ⟨p3, q3⟩
        · rcases three (decide (0 < G)) (g == 0) with p4 | ⟨p4, q4⟩ | ⟨p4, q4⟩
          · rw [show lrB N E G O ⟨op, i, e, g, x, y⟩ = true from by simp [lrB, p0, q0, p1, q1, p2, p3, p4]]
            go_enter Tryd.func65, Tryd.ntmps65
            go_wp2
            go_ret
            first
            | exact ⟨rfl, HB.out _ _⟩
            | exact ⟨ret_bool p0, HB.out _ _⟩
            | exact ⟨ret_bool q0, HB.out _ _⟩
            | exact ⟨ret_bool p1, HB.out _ _⟩
            | exact ⟨ret_bool q1, HB.out _ _⟩
            | exact ⟨ret_bool p2, HB.out _ _⟩
            | exact ⟨ret_bool p3, HB.out _ _⟩
            | exact ⟨ret_bool p4, HB.out _ _⟩
          · rw [show lrB N E G O ⟨op, i, e, g, x, y⟩ = true from by simp [lrB, p0, q0, p1, q1, p2, p3, p4, q4]]
            go_enter Tryd.func65, Tryd.ntmps65
            go_wp2
            go_ret
            first
            | exact ⟨rfl, HB.out _ _⟩
            | exact ⟨ret_bool p0, HB.out _ _⟩
            | exact ⟨ret_bool q0, HB.out _ _⟩
            | exact ⟨ret_bool p1, HB.out _ _⟩
            | exact ⟨ret_bool q1, HB.out _ _⟩
            | exact ⟨ret_bool p2, HB.out _ _⟩
            | exact ⟨ret_bool p3, HB.out _ _⟩
            | exact ⟨ret_bool p4, HB.out _ _⟩
            | exact ⟨ret_bool q4, HB.out _ _⟩
          · rw [show lrB N E G O ⟨op, i, e, g, x, y⟩ = false from by simp [lrB, p0, q0, p1, q1, p2, p3, p4, q4]]
            go_enter Tryd.func65, Tryd.ntmps65
            go_wp2
            go_ret
            first
            | exact ⟨rfl, HB.out _ _⟩
            | exact ⟨ret_bool p0, HB.out _ _⟩
            | exact ⟨ret_bool q0, HB.out _ _⟩
            | exact ⟨ret_bool p1, HB.out _ _⟩
            | exact ⟨ret_bool q1, HB.out _ _⟩
            | exact ⟨ret_bool p2, HB.out _ _⟩
            | exact ⟨ret_bool p3, HB.out _ _⟩
            | exact ⟨ret_bool p4, HB.out _ _⟩
            | exact ⟨ret_bool q4, HB.out _ _⟩
        · rcases three (decide (0 < G)) (g == 0) with p4 | ⟨p4, q4⟩ | ⟨p4, q4⟩
          · rw [show lrB N E G O ⟨op, i, e, g, x, y⟩ = true from by simp [lrB, p0, q0, p1, q1, p2, p3, q3, p4]]
            go_enter Tryd.func65, Tryd.ntmps65
            go_wp2
            go_ret
            first
            | exact ⟨rfl, HB.out _ _⟩
            | exact ⟨ret_bool p0, HB.out _ _⟩
            | exact ⟨ret_bool q0, HB.out _ _⟩
            | exact ⟨ret_bool p1, HB.out _ _⟩
            | exact ⟨ret_bool q1, HB.out _ _⟩
            | exact ⟨ret_bool p2, HB.out _ _⟩
            | exact ⟨ret_bool p3, HB.out _ _⟩
            | exact ⟨ret_bool q3, HB.out _ _⟩
            | exact ⟨ret_bool p4, HB.out _ _⟩
          · rw [show lrB N E G O ⟨op, i, e, g, x, y⟩ = true from by simp [lrB, p0, q0, p1, q1, p2, p3, q3, p4, q4]]
            go_enter Tryd.func65, Tryd.ntmps65
            go_wp2
            go_ret
            first
            | exact ⟨rfl, HB.out _ _⟩
            | exact ⟨ret_bool p0, HB.out _ _⟩
            | exact ⟨ret_bool q0, HB.out _ _⟩
            | exact ⟨ret_bool p1, HB.out _ _⟩
            | exact ⟨ret_bool q1, HB.out _ _⟩
            | exact ⟨ret_bool p2, HB.out _ _⟩
            | exact ⟨ret_bool p3, HB.out _ _⟩
            | exact ⟨ret_bool q3, HB.out _ _⟩
            | exact ⟨ret_bool p4, HB.out _ _⟩
            | exact ⟨ret_bool q4, HB.out _ _⟩
          · rw [show lrB N E G O ⟨op, i, e, g, x, y⟩ = false from by simp [lrB, p0, q0, p1, q1, p2, p3, q3, p4, q4]]
            go_enter Tryd.func65, Tryd.ntmps65
            go_wp2
            go_ret
            first
            | exact ⟨rfl, HB.out _ _⟩
            | exact ⟨ret_bool p0, HB.out _ _⟩
            | exact ⟨ret_bool q0, HB.out _ _⟩
            | exact ⟨ret_bool p1, HB.out _ _⟩
            | exact ⟨ret_bool q1, HB.out _ _⟩
            | exact ⟨ret_bool p2, HB.out _ _⟩
            | exact ⟨ret_bool p3, HB.out _ _⟩
            | exact ⟨ret_bool q3, HB.out _ _⟩
            | exact ⟨ret_bool p4, HB.out _ _⟩
            | exact ⟨ret_bool q4, HB.out _ _⟩
        · rw [show lrB N E G O ⟨op, i, e, g, x, y⟩ = false from by simp [lrB, p0, q0, p1, q1, p2, p3, q3]]
          go_enter Tryd.func65, Tryd.ntmps65
          go_wp2
          go_ret
          first
          | exact ⟨rfl, HB.out _ _⟩
          | exact ⟨ret_bool p0, HB.out _ _⟩
          | exact ⟨ret_bool q0, HB.out _ _⟩
          | exact ⟨ret_bool p1, HB.out _ _⟩
          | exact ⟨ret_bool q1, HB.out _ _⟩
          | exact ⟨ret_bool p2, HB.out _ _⟩
          | exact ⟨ret_bool p3, HB.out _ _⟩
          | exact ⟨ret_bool q3, HB.out _ _⟩
      · rcases three (decide (0 < E)) (e == 0) with p3 | ⟨p3, q3⟩ | ⟨p3, q3⟩
        · rcases three (decide (0 < G)) (g == 0) with p4 | ⟨p4, q4⟩ | ⟨p4, q4⟩
          · rw [show lrB N E G O ⟨op, i, e, g, x, y⟩ = true from by simp [lrB, p0, q0, p1, q1, p2, q2, p3, p4]]
            go_enter Tryd.func65, Tryd.ntmps65
            go_wp2
            go_ret
            first
            | exact ⟨rfl, HB.out _ _⟩
            | exact ⟨ret_bool p0, HB.out _ _⟩
            | exact ⟨ret_bool q0, HB.out _ _⟩
            | exact ⟨ret_bool p1, HB.out _ _⟩
            | exact ⟨ret_bool q1, HB.out _ _⟩
            | exact ⟨ret_bool p2, HB.out _ _⟩
            | exact ⟨ret_bool q2, HB.out _ _⟩
            | exact ⟨ret_bool p3, HB.out _ _⟩
            | exact ⟨ret_bool p4, HB.out _ _⟩
          · rw [show lrB N E G O ⟨op, i, e, g, x, y⟩ = true from by simp [lrB, p0, q0, p1, q1, p2, q2, p3, p4, q4]]
            go_enter Tryd.func65, Tryd.ntmps65
            go_wp2
            go_ret
            first
            | exact ⟨rfl, HB.out _ _⟩
            | exact ⟨ret_bool p0, HB.out _ _⟩
            | exact ⟨ret_bool q0, HB.out _ _⟩
            | exact ⟨ret_bool p1, HB.out _ _⟩
            | exact ⟨ret_bool q1, HB.out _ _⟩
            | exact ⟨ret_bool p2, HB.out _ _⟩
            | exact ⟨ret_bool q2, HB.out _ _⟩
            | exact ⟨ret_bool p3, HB.out _ _⟩
            | exact ⟨ret_bool p4, HB.out _ _⟩
            | exact ⟨ret_bool q4, HB.out _ _⟩
          · rw [show lrB N E G O ⟨op, i, e, g, x, y⟩ = false from by simp [lrB, p0, q0, p1, q1, p2, q2, p3, p4, q4]]
            go_enter Tryd.func65, Tryd.ntmps65
            go_wp2
            go_ret
            first
            | exact ⟨rfl, HB.out _ _⟩
            | exact ⟨ret_bool p0, HB.out _ _⟩
            | exact ⟨ret_bool q0, HB.out _ _⟩
            | exact ⟨ret_bool p1, HB.out _ _⟩
            | exact ⟨ret_bool q1, HB.out _ _⟩
            | exact ⟨ret_bool p2, HB.out _ _⟩
            | exact ⟨ret_bool q2, HB.out _ _⟩
            | exact ⟨ret_bool p3, HB.out _ _⟩
            | exact ⟨ret_bool p4, HB.out _ _⟩
            | exact ⟨ret_bool q4, HB.out _ _⟩
        · rcases three (decide (0 < G)) (g == 0) with p4 | ⟨p4, q4⟩ | ⟨p4, q4⟩
          · rw [show lrB N E G O ⟨op, i, e, g, x, y⟩ = true from by simp [lrB, p0, q0, p1, q1, p2, q2, p3, q3, p4]]
            go_enter Tryd.func65, Tryd.ntmps65
            go_wp2
            go_ret
            first
            | exact ⟨rfl, HB.out _ _⟩
            | exact ⟨ret_bool p0, HB.out _ _⟩
            | exact ⟨ret_bool q0, HB.out _ _⟩
            | exact ⟨ret_bool p1, HB.out _ _⟩
            | exact ⟨ret_bool q1, HB.out _ _⟩
            | exact ⟨ret_bool p2, HB.out _ _⟩
            | exact ⟨ret_bool q2, HB.out _ _⟩
            | exact ⟨ret_bool p3, HB.out _ _⟩
            | exact ⟨ret_bool q3, HB.out _ _⟩
            | exact ⟨ret_bool p4, HB.out _ _⟩
          · rw [show lrB N E G O ⟨op, i, e, g, x, y⟩ = true from by simp [lrB, p0, q0, p1, q1, p2, q2, p3, q3, p4, q4]]
            go_enter Tryd.func65, Tryd.ntmps65
            go_wp2
            go_ret
            first
            | exact ⟨rfl, HB.out _ _⟩
            | exact ⟨ret_bool p0, HB.out _ _⟩
            | exact ⟨ret_bool q0, HB.out _ _⟩
            | exact ⟨ret_bool p1, HB.out _ _⟩
            | exact ⟨ret_bool q1, HB.out _ _⟩
            | exact ⟨ret_bool p2, HB.out _ _⟩
            | exact ⟨ret_bool q2, HB.out _ _⟩
            | exact ⟨ret_bool p3, HB.out _ _⟩
            | exact ⟨ret_bool q3, HB.out _ _⟩
            | exact ⟨ret_bool p4, HB.out _ _⟩
            | exact ⟨ret_bool q4, HB.out _ _⟩
          · rw [show lrB N E G O ⟨op, i, e, g, x, y⟩ = false from by simp [lrB, p0, q0, p1, q1, p2, q2, p3, q3, p4, q4]]
            go_enter Tryd.func65, Tryd.ntmps65
            go_wp2
            go_ret
            first
            | exact ⟨rfl, HB.out _ _⟩
            | exact ⟨ret_bool p0, HB.out _ _⟩
            | exact ⟨ret_bool q0, HB.out _ _⟩
            | exact ⟨ret_bool p1, HB.out _ _⟩
            | exact ⟨ret_bool q1, HB.out _ _⟩
            | exact ⟨ret_bool p2, HB.out _ _⟩
            | exact ⟨ret_bool q2, HB.out _ _⟩
            | exact ⟨ret_bool p3, HB.out _ _⟩
            | exact ⟨ret_bool q3, HB.out _ _⟩
            | exact ⟨ret_bool p4, HB.out _ _⟩
            | exact ⟨ret_bool q4, HB.out _ _⟩
        · rw [show lrB N E G O ⟨op, i, e, g, x, y⟩ = false from by simp [lrB, p0, q0, p1, q1, p2, q2, p3, q3]]
          go_enter Tryd.func65, Tryd.ntmps65
          go_wp2
          go_ret
          first
          | exact ⟨rfl, HB.out _ _⟩
          | exact ⟨ret_bool p0, HB.out _ _⟩
          | exact ⟨ret_bool q0, HB.out _ _⟩
          | exact ⟨ret_bool p1, HB.out _ _⟩
          | exact ⟨ret_bool q1, HB.out _ _⟩
          | exact ⟨ret_bool p2, HB.out _ _⟩
          | exact ⟨ret_bool q2, HB.out _ _⟩
          | exact ⟨ret_bool p3, HB.out _ _⟩
          | exact ⟨ret_bool q3, HB.out _ _⟩
      · rw [show lrB N E G O ⟨op, i, e, g, x, y⟩ = false from by simp [lrB, p0, q0, p1, q1, p2, q2]]
        go_enter Tryd.func65, Tryd.ntmps65
        go_wp2
        go_ret
        first
        | exact ⟨rfl, HB.out _ _⟩
        | exact ⟨ret_bool p0, HB.out _ _⟩
        | exact ⟨ret_bool q0, HB.out _ _⟩
        | exact ⟨ret_bool p1, HB.out _ _⟩
        | exact ⟨ret_bool q1, HB.out _ _⟩
        | exact ⟨ret_bool p2, HB.out _ _⟩
        | exact ⟨ret_bool q2, HB.out _ _⟩
    · rw [show lrB N E G O ⟨op, i, e, g, x, y⟩ = false from by simp [lrB, p0, q0, p1, q1]]
      go_enter Tryd.func65, Tryd.ntmps65
      go_wp2
      go_ret
      first
      | exact ⟨rfl, HB.out _ _⟩
      | exact ⟨ret_bool p0, HB.out _ _⟩
      | exact ⟨ret_bool q0, HB.out _ _⟩
      | exact ⟨ret_bool p1, HB.out _ _⟩
      | exact ⟨ret_bool q1, HB.out _ _⟩
  · rw [show lrB N E G O ⟨op, i, e, g, x, y⟩ = false from by simp [lrB, p0, q0]]
    go_enter Tryd.func65, Tryd.ntmps65
    go_wp2
    go_ret
    first
    | exact ⟨rfl, HB.out _ _⟩
    | exact ⟨ret_bool p0, HB.out _ _⟩
    | exact ⟨ret_bool q0, HB.out _ _⟩
set_option maxHeartbeats 8000000 in
theorem pInRange_any (N E G O : Int) (n : Nd) (w : World) : Calls Tryd.prog 66 #[shc N E G O, nv n] w fun e w' =>
    e = .returned (.bool (irB N E G n)) ∧ Below w.heap.size w w' := by
  obtain ⟨op, i, e, g, x, y⟩ := n
  unfold shc nv
  have HB : Hid (∀ o o', Below w.heap.size w ((w.alloc o).alloc o')) := Lib.hid (fun o o' => ((Below.refl _ w).alloc (Nat.le_refl _) o).alloc (by simp) o')
  rcases three (N == 0) (isB i N) with p0 | ⟨p0, q0⟩ | ⟨p0, q0⟩
  · rcases three (E == 0) (isB e E) with p1 | ⟨p1, q1⟩ | ⟨p1, q1⟩
    · rcases three (G == 0) (decide (1 ≤ g)) with p2 | ⟨p2, q2⟩ | ⟨p2, q2⟩
      · rw [show irB N E G ⟨op, i, e, g, x, y⟩ = true from by simp [irB, p0, p1, p2]]
        go_enter Tryd.func66, Tryd.ntmps66
        go_wp2_with (first | (go_at_call 86; refine (pIsB_any _ _ _).mono ?_; rintro e w' ⟨rfl, rfl⟩))
        go_ret
        first
        | exact ⟨rfl, HB.out _ _⟩
        | exact ⟨ret_bool p0, HB.out _ _⟩
        | exact ⟨ret_bool p1, HB.out _ _⟩
        | exact ⟨ret_bool p2, HB.out _ _⟩
      · cases q3 : decide (g ≤ G)
        · rw [show irB N E G ⟨op, i, e, g, x, y⟩ = false from by simp [irB, p0, p1, p2, q2, q3]]
          go_enter Tryd.func66, Tryd.ntmps66
          go_wp2_with (first | (go_at_call 86; refine (pIsB_any _ _ _).mono ?_; rintro e w' ⟨rfl, rfl⟩))
          go_ret
          first
          | exact ⟨rfl, HB.out _ _⟩
          | exact ⟨ret_bool p0, HB.out _ _⟩
          | exact ⟨ret_bool p1, HB.out _ _⟩
          | exact ⟨ret_bool p2, HB.out _ _⟩
          | exact ⟨ret_bool q2, HB.out _ _⟩
          | exact ⟨ret_bool q3, HB.out _ _⟩
        · rw [show irB N E G ⟨op, i, e, g, x, y⟩ = true from by simp [irB, p0, p1, p2, q2, q3]]
          go_enter Tryd.func66, Tryd.ntmps66
          go_wp2_with (first | (go_at_call 86; refine (pIsB_any _ _ _).mono ?_; rintro e w' ⟨rfl, rfl⟩))
          go_ret
          first
          | exact ⟨rfl, HB.out _ _⟩
          | exact ⟨ret_bool p0, HB.out _ _⟩
          | exact ⟨ret_bool p1, HB.out _ _⟩
          | exact ⟨ret_bool p2, HB.out _ _⟩
          | exact ⟨ret_bool q2, HB.out _ _⟩
          | exact ⟨ret_bool q3, HB.out _ _⟩
      · rw [show irB N E G ⟨op, i, e, g, x, y⟩ = false from by simp [irB, p0, p1, p2, q2]]
        go_enter Tryd.func66, Tryd.ntmps66
        go_wp2_with (first | (go_at_call 86; refine (pIsB_any _ _ _).mono ?_; rintro e w' ⟨rfl, rfl⟩))
        go_ret
        first
        | exact ⟨rfl, HB.out _ _⟩
        | exact ⟨ret_bool p0, HB.out _ _⟩
        | exact ⟨ret_bool p1, HB.out _ _⟩
        | exact ⟨ret_bool p2, HB.out _ _⟩
        | exact ⟨ret_bool q2, HB.out _ _⟩
    · rcases three (G == 0) (decide (1 ≤ g)) with p2 | ⟨p2, q2⟩ | ⟨p2, q2⟩
      · rw [show irB N E G ⟨op, i, e, g, x, y⟩ = true from by simp [irB, p0, p1, q1, p2]]
        go_enter Tryd.func66, Tryd.ntmps66
        go_wp2_with (first | (go_at_call 86; refine (pIsB_any _ _ _).mono ?_; rintro e w' ⟨rfl, rfl⟩))
        go_ret
        first
        | exact ⟨rfl, HB.out _ _⟩
        | exact ⟨ret_bool p0, HB.out _ _⟩
        | exact ⟨ret_bool p1, HB.out _ _⟩
        | exact ⟨ret_bool q1, HB.out _ _⟩
        | exact ⟨ret_bool p2, HB.out _ _⟩
      · cases q3 : decide (g ≤ G)
        · rw [show irB N E G ⟨op, i, e, g, x, y⟩ = false from by simp [irB, p0, p1, q1, p2, q2, q3]]
          go_enter Tryd.func66, Tryd.ntmps66
          go_wp2_with (first | (go_at_call 86; refine (pIsB_any _ _ _).mono ?_; rintro e w' ⟨rfl, rfl⟩))
          go_ret
          first
          | exact ⟨rfl, HB.out _ _⟩
          | exact ⟨ret_bool p0, HB.out _ _⟩
          | exact ⟨ret_bool p1, HB.out _ _⟩
          | exact ⟨ret_bool q1, HB.out _ _⟩
          | exact ⟨ret_bool p2, HB.out _ _⟩
          | exact ⟨ret_bool q2, HB.out _ _⟩
          | exact ⟨ret_bool q3, HB.out _ _⟩
        · rw [show irB N E G ⟨op, i, e, g, x, y⟩ = true from by simp [irB, p0, p1, q1, p2, q2, q3]]
          go_enter Tryd.func66, Tryd.ntmps66
          go_wp2_with (first | (go_at_call 86; refine (pIsB_any _ _ _).mono ?_; rintro e w' ⟨rfl, rfl⟩))
          go_ret
          first
          | exact ⟨rfl, HB.out _ _⟩
          | exact ⟨ret_bool p0, HB.out _ _⟩
          | exact ⟨ret_bool p1, HB.out _ _⟩
          | exact ⟨ret_bool q1, HB.out _ _⟩
          | exact ⟨ret_bool p2, HB.out _ _⟩
          | exact ⟨ret_bool q2, HB.out _ _⟩
          | exact ⟨ret_bool q3, HB.out _ _⟩
      · rw [show irB N E G ⟨op, i, e, g, x, y⟩ = false from by simp [irB, p0, p1, q1, p2, q2]]
        go_enter Tryd.func66, Tryd.ntmps66
        go_wp2_with (first | (go_at_call 86; refine (pIsB_any _ _ _).mono ?_; rintro e w' ⟨rfl, rfl⟩))
        go_ret
        first
        | exact ⟨rfl, HB.out _ _⟩
        | exact ⟨ret_bool p0, HB.out _ _⟩
        | exact ⟨ret_bool p1, HB.out _ _⟩
        | exact ⟨ret_bool q1, HB.out _ _⟩
        | exact ⟨ret_bool p2, HB.out _ _⟩
        | exact ⟨ret_bool q2, HB.out _ _⟩
    · rw [show irB N E G ⟨op, i, e, g, x, y⟩ = false from by simp [irB, p0, p1, q1]]
      go_enter Tryd.func66, Tryd.ntmps66
      go_wp2_with (first | (go_at_call 86; refine (pIsB_any _ _ _).mono ?_; rintro e w' ⟨rfl, rfl⟩))
      go_ret
      first
      | exact ⟨rfl, HB.out _ _⟩
      | exact ⟨ret_bool p0, HB.out _ _⟩
      | exact ⟨ret_bool p1, HB.out _ _⟩
      | exact ⟨ret_bool q1, HB.out _ _⟩
  · rcases three (E == 0) (isB e E) with p1 | ⟨p1, q1⟩ | ⟨p1, q1⟩
    · rcases three (G == 0) (decide (1 ≤ g)) with p2 | ⟨p2, q2⟩ | ⟨p2, q2⟩
      · rw [show irB N E G ⟨op, i, e, g, x, y⟩ = true from by simp [irB, p0, q0, p1, p2]]
        go_enter Tryd.func66, Tryd.ntmps66
        go_wp2_with (first | (go_at_call 86; refine (pIsB_any _ _ _).mono ?_; rintro e w' ⟨rfl, rfl⟩))
        go_ret
        first
        | exact ⟨rfl, HB.out _ _⟩
        | exact ⟨ret_bool p0, HB.out _ _⟩
        | exact ⟨ret_bool q0, HB.out _ _⟩
        | exact ⟨ret_bool p1, HB.out _ _⟩
        | exact ⟨ret_bool p2, HB.out _ _⟩
      · cases q3 : decide (g ≤ G)
        · rw [show irB N E G ⟨op, i, e, g, x, y⟩ = false from by simp [irB, p0, q0, p1, p2, q2, q3]]
          go_enter Tryd.func66, Tryd.ntmps66
          go_wp2_with (first | (go_at_call 86; refine (pIsB_any _ _ _).mono ?_; rintro e w' ⟨rfl, rfl⟩))
          go_ret
          first
          | exact ⟨rfl, HB.out _ _⟩
          | exact ⟨ret_bool p0, HB.out _ _⟩
          | exact ⟨ret_bool q0, HB.out _ _⟩
          | exact ⟨ret_bool p1, HB.out _ _⟩
          | exact ⟨ret_bool p2, HB.out _ _⟩
          | exact ⟨ret_bool q2, HB.out _ _⟩
          | exact ⟨ret_bool q3, HB.out _ _⟩
        · rw [show irB N E G ⟨op, i, e, g, x, y⟩ = true from by simp [irB, p0, q0, p1, p2, q2, q3]]
          go_enter Tryd.func66, Tryd.ntmps66
          go_wp2_with (first | (go_at_call 86; refine (pIsB_any _ _ _).mono ?_; rintro e w' ⟨rfl, rfl⟩))
          go_ret
          first
          | exact ⟨rfl, HB.out _ _⟩
          | exact ⟨ret_bool p0, HB.out _ _⟩
          | exact ⟨ret_bool q0, HB.out _ _⟩
          | exact ⟨ret_bool p1, HB.out _ _⟩
          | exact ⟨ret_bool p2, HB.out _ _⟩
          | exact ⟨ret_bool q2, HB.out _ _⟩
          | exact ⟨ret_bool q3, HB.out _ _⟩
      · rw [show irB N E G ⟨op, i, e, g, x, y⟩ = false from by simp [irB, p0, q0, p1, p2, q2]]
        go_enter Tryd.func66, Tryd.ntmps66
        go_wp2_with (first | (go_at_call 86; refine (pIsB_any _ _ _).mono ?_; rintro e w' ⟨rfl, rfl⟩))
        go_ret
        first
        | exact ⟨rfl, HB.out _ _⟩
        | exact ⟨ret_bool p0, HB.out _ _⟩
        | exact ⟨ret_bool q0, HB.out _ _⟩
        | exact ⟨ret_bool p1, HB.out _ _⟩
        | exact ⟨ret_bool p2, HB.out _ _⟩
        | exact ⟨ret_bool q2, HB.out _ _⟩
    · rcases three (G == 0) (decide (1 ≤ g)) with p2 | ⟨p2, q2⟩ | ⟨p2, q2⟩
      · rw [show irB N E G ⟨op, i, e, g, x, y⟩ = true from by simp [irB, p0, q0, p1, q1, p2]]
        go_enter Tryd.func66, Tryd.ntmps66
        go_wp2_with (first | (go_at_call 86; refine (pIsB_any _ _ _).mono ?_; rintro e w' ⟨rfl, rfl⟩))
        go_ret
        first
        | exact ⟨rfl, HB.out _ _⟩
        | exact ⟨ret_bool p0, HB.out _ _⟩
        | exact ⟨ret_bool q0, HB.out _ _⟩
        | exact ⟨ret_bool p1, HB.out _ _⟩
        | exact ⟨ret_bool q1, HB.out _ _⟩
        | exact ⟨ret_bool p2, HB.out _ _⟩
      · cases q3 : decide (g ≤ G)
        · rw [show irB N E G ⟨op, i, e, g, x, y⟩ = false from by simp [irB, p0, q0, p1, q1, p2, q2, q3]]
          go_enter Tryd.func66, Tryd.ntmps66
          go_wp2_with (first | (go_at_call 86; refine (pIsB_any _ _ _).mono ?_; rintro e w' ⟨rfl, rfl⟩))
          go_ret
          first
          | exact ⟨rfl, HB.out _ _⟩
          | exact ⟨ret_bool p0, HB.out _ _⟩
          | exact ⟨ret_bool q0, HB.out _ _⟩
          | exact ⟨ret_bool p1, HB.out _ _⟩
          | exact ⟨ret_bool q1, HB.out _ _⟩
          | exact ⟨ret_bool p2, HB.out _ _⟩
          | exact ⟨ret_bool q2, HB.out _ _⟩
          | exact ⟨ret_bool q3, HB.out _ _⟩
        · rw [show irB N E G ⟨op, i, e, g, x, y⟩ = true from by simp [irB, p0, q0, p1, q1, p2, q2, q3]]
          go_enter Tryd.func66, Tryd.ntmps66
          go_wp2_with (first | (go_at_call 86; refine (pIsB_any _ _ _).mono ?_; rintro e w' ⟨rfl, rfl⟩))
          go_ret
          first
          | exact ⟨rfl, HB.out _ _⟩
          | exact ⟨ret_bool p0, HB.out _ _⟩
          | exact ⟨ret_bool q0, HB.out _ _⟩
          | exact ⟨ret_bool p1, HB.out _ _⟩
          | exact ⟨ret_bool q1, HB.out _ _⟩
          | exact ⟨ret_bool p2, HB.out _ _⟩
          | exact ⟨ret_bool q2, HB.out _ _⟩
          | exact ⟨ret_bool q3, HB.out _ _⟩
      · rw [show irB N E G ⟨op, i, e, g, x, y⟩ = false from by simp [irB, p0, q0, p1, q1, p2, q2]]
        go_enter Tryd.func66, Tryd.ntmps66
        go_wp2_with (first | (go_at_call 86; refine (pIsB_any _ _ _).mono ?_; rintro e w' ⟨rfl, rfl⟩))
        go_ret
        first
        | exact ⟨rfl, HB.out _ _⟩
        | exact ⟨ret_bool p0, HB.out _ _⟩
        | exact ⟨ret_bool q0, HB.out _ _⟩
        | exact ⟨ret_bool p1, HB.out _ _⟩
        | exact ⟨ret_bool q1, HB.out _ _⟩
        | exact ⟨ret_bool p2, HB.out _ _⟩
        | exact ⟨ret_bool q2, HB.out _ _⟩
    · rw [show irB N E G ⟨op, i, e, g, x, y⟩ = false from by simp [irB, p0, q0, p1, q1]]
      go_enter Tryd.func66, Tryd.ntmps66
      go_wp2_with (first | (go_at_call 86; refine (pIsB_any _ _ _).mono ?_; rintro e w' ⟨rfl, rfl⟩))
      go_ret
      first
      | exact ⟨rfl, HB.out _ _⟩
      | exact ⟨ret_bool p0, HB.out _ _⟩
      | exact ⟨ret_bool q0, HB.out _ _⟩
      | exact ⟨ret_bool p1, HB.out _ _⟩
      | exact ⟨ret_bool q1, HB.out _ _⟩
  · rw [show irB N E G ⟨op, i, e, g, x, y⟩ = false from by simp [irB, p0, q0]]
    go_enter Tryd.func66, Tryd.ntmps66
    go_wp2_with (first | (go_at_call 86; refine (pIsB_any _ _ _).mono ?_; rintro e w' ⟨rfl, rfl⟩))
    go_ret
    first
    | exact ⟨rfl, HB.out _ _⟩
    | exact ⟨ret_bool p0, HB.out _ _⟩
    | exact ⟨ret_bool q0, HB.out _ _⟩
end Go.Proofs.YtopkmcoblndokaaDoor
