/- Layer 5: shapeOf. -/
import Derived.Test.YtcbmncafmofcpaaKa
namespace Go.Proofs.Ytcbmncafmofcpaa
open Go.RowKit Go.Proofs.Ws
def shC (op : Int) : Value := .agg #[.int .i64 (shN op), .int .i64 (shE op), .int .i64 (shG op), .int .i64 (shO op)]
def shV (op : Int) : Value := .tuple #[shC op, .bool (known op)]
theorem known_cases (op : Int) (h : known op = true) : op = 1 ∨ op = 2 ∨ op = 3 ∨ op = 4 ∨ op = 5 ∨ op = 6 ∨ op = 7 ∨ op = 8 ∨ op = 9 ∨ op = 10 ∨ op = 11 ∨ op = 12 ∨ op = 13 ∨ op = 14 ∨ op = 15 ∨ op = 16 ∨ op = 17 ∨ op = 18 ∨ op = 19 ∨ op = 20 ∨ op = 21 := by
  unfold known at h
  simp only [Bool.and_eq_true, decide_eq_true_eq] at h
  omega
theorem pShape_1 (w : World) : Calls Try.prog 87 #[.int .i64 1] w fun e w' => e = .returned (shV 1) ∧ Below w.heap.size w w' := by
  go_enter Try.func87, Try.ntmps87
  go_wp2
  exact bodyPost_ret (v := shV 1) (by simp [results, Try.results87, go_sem]; rfl) rfl ⟨rfl, (Below.refl _ _).alloc (Nat.le_refl _) _⟩
theorem pShape_2 (w : World) : Calls Try.prog 87 #[.int .i64 2] w fun e w' => e = .returned (shV 2) ∧ Below w.heap.size w w' := by
  go_enter Try.func87, Try.ntmps87
  go_wp2
  exact bodyPost_ret (v := shV 2) (by simp [results, Try.results87, go_sem]; rfl) rfl ⟨rfl, (Below.refl _ _).alloc (Nat.le_refl _) _⟩
theorem pShape_3 (w : World) : Calls Try.prog 87 #[.int .i64 3] w fun e w' => e = .returned (shV 3) ∧ Below w.heap.size w w' := by
  go_enter Try.func87, Try.ntmps87
  go_wp2
  exact bodyPost_ret (v := shV 3) (by simp [results, Try.results87, go_sem]; rfl) rfl ⟨rfl, (Below.refl _ _).alloc (Nat.le_refl _) _⟩
theorem pShape_4 (w : World) : Calls Try.prog 87 #[.int .i64 4] w fun e w' => e = .returned (shV 4) ∧ Below w.heap.size w w' := by
  go_enter Try.func87, Try.ntmps87
  go_wp2
  exact bodyPost_ret (v := shV 4) (by simp [results, Try.results87, go_sem]; rfl) rfl ⟨rfl, (Below.refl _ _).alloc (Nat.le_refl _) _⟩
theorem pShape_5 (w : World) : Calls Try.prog 87 #[.int .i64 5] w fun e w' => e = .returned (shV 5) ∧ Below w.heap.size w w' := by
  go_enter Try.func87, Try.ntmps87
  go_wp2
  exact bodyPost_ret (v := shV 5) (by simp [results, Try.results87, go_sem]; rfl) rfl ⟨rfl, (Below.refl _ _).alloc (Nat.le_refl _) _⟩
theorem pShape_6 (w : World) : Calls Try.prog 87 #[.int .i64 6] w fun e w' => e = .returned (shV 6) ∧ Below w.heap.size w w' := by
  go_enter Try.func87, Try.ntmps87
  go_wp2
  exact bodyPost_ret (v := shV 6) (by simp [results, Try.results87, go_sem]; rfl) rfl ⟨rfl, (Below.refl _ _).alloc (Nat.le_refl _) _⟩
theorem pShape_7 (w : World) : Calls Try.prog 87 #[.int .i64 7] w fun e w' => e = .returned (shV 7) ∧ Below w.heap.size w w' := by
  go_enter Try.func87, Try.ntmps87
  go_wp2
  exact bodyPost_ret (v := shV 7) (by simp [results, Try.results87, go_sem]; rfl) rfl ⟨rfl, (Below.refl _ _).alloc (Nat.le_refl _) _⟩
theorem pShape_8 (w : World) : Calls Try.prog 87 #[.int .i64 8] w fun e w' => e = .returned (shV 8) ∧ Below w.heap.size w w' := by
  go_enter Try.func87, Try.ntmps87
  go_wp2
  exact bodyPost_ret (v := shV 8) (by simp [results, Try.results87, go_sem]; rfl) rfl ⟨rfl, (Below.refl _ _).alloc (Nat.le_refl _) _⟩
theorem pShape_9 (w : World) : Calls Try.prog 87 #[.int .i64 9] w fun e w' => e = .returned (shV 9) ∧ Below w.heap.size w w' := by
  go_enter Try.func87, Try.ntmps87
  go_wp2
  exact bodyPost_ret (v := shV 9) (by simp [results, Try.results87, go_sem]; rfl) rfl ⟨rfl, (Below.refl _ _).alloc (Nat.le_refl _) _⟩
theorem pShape_10 (w : World) : Calls Try.prog 87 #[.int .i64 10] w fun e w' => e = .returned (shV 10) ∧ Below w.heap.size w w' := by
  go_enter Try.func87, Try.ntmps87
  go_wp2
  exact bodyPost_ret (v := shV 10) (by simp [results, Try.results87, go_sem]; rfl) rfl ⟨rfl, (Below.refl _ _).alloc (Nat.le_refl _) _⟩
theorem pShape_11 (w : World) : Calls Try.prog 87 #[.int .i64 11] w fun e w' => e = .returned (shV 11) ∧ Below w.heap.size w w' := by
  go_enter Try.func87, Try.ntmps87
  go_wp2
  exact bodyPost_ret (v := shV 11) (by simp [results, Try.results87, go_sem]; rfl) rfl ⟨rfl, (Below.refl _ _).alloc (Nat.le_refl _) _⟩
theorem pShape_12 (w : World) : Calls Try.prog 87 #[.int .i64 12] w fun e w' => e = .returned (shV 12) ∧ Below w.heap.size w w' := by
  go_enter Try.func87, Try.ntmps87
  go_wp2
  exact bodyPost_ret (v := shV 12) (by simp [results, Try.results87, go_sem]; rfl) rfl ⟨rfl, (Below.refl _ _).alloc (Nat.le_refl _) _⟩
theorem pShape_13 (w : World) : Calls Try.prog 87 #[.int .i64 13] w fun e w' => e = .returned (shV 13) ∧ Below w.heap.size w w' := by
  go_enter Try.func87, Try.ntmps87
  go_wp2
  exact bodyPost_ret (v := shV 13) (by simp [results, Try.results87, go_sem]; rfl) rfl ⟨rfl, (Below.refl _ _).alloc (Nat.le_refl _) _⟩
theorem pShape_14 (w : World) : Calls Try.prog 87 #[.int .i64 14] w fun e w' => e = .returned (shV 14) ∧ Below w.heap.size w w' := by
  go_enter Try.func87, Try.ntmps87
  go_wp2
  exact bodyPost_ret (v := shV 14) (by simp [results, Try.results87, go_sem]; rfl) rfl ⟨rfl, (Below.refl _ _).alloc (Nat.le_refl _) _⟩
theorem pShape_15 (w : World) : Calls Try.prog 87 #[.int .i64 15] w fun e w' => e = .returned (shV 15) ∧ Below w.heap.size w w' := by
  go_enter Try.func87, Try.ntmps87
  go_wp2
  exact bodyPost_ret (v := shV 15) (by simp [results, Try.results87, go_sem]; rfl) rfl ⟨rfl, (Below.refl _ _).alloc (Nat.le_refl _) _⟩
theorem pShape_16 (w : World) : Calls Try.prog 87 #[.int .i64 16] w fun e w' => e = .returned (shV 16) ∧ Below w.heap.size w w' := by
  go_enter Try.func87, Try.ntmps87
  go_wp2
  exact bodyPost_ret (v := shV 16) (by simp [results, Try.results87, go_sem]; rfl) rfl ⟨rfl, (Below.refl _ _).alloc (Nat.le_refl _) _⟩
theorem pShape_17 (w : World) : Calls Try.prog 87 #[.int .i64 17] w fun e w' => e = .returned (shV 17) ∧ Below w.heap.size w w' := by
  go_enter Try.func87, Try.ntmps87
  go_wp2
  exact bodyPost_ret (v := shV 17) (by simp [results, Try.results87, go_sem]; rfl) rfl ⟨rfl, (Below.refl _ _).alloc (Nat.le_refl _) _⟩
theorem pShape_18 (w : World) : Calls Try.prog 87 #[.int .i64 18] w fun e w' => e = .returned (shV 18) ∧ Below w.heap.size w w' := by
  go_enter Try.func87, Try.ntmps87
  go_wp2
  exact bodyPost_ret (v := shV 18) (by simp [results, Try.results87, go_sem]; rfl) rfl ⟨rfl, (Below.refl _ _).alloc (Nat.le_refl _) _⟩
theorem pShape_19 (w : World) : Calls Try.prog 87 #[.int .i64 19] w fun e w' => e = .returned (shV 19) ∧ Below w.heap.size w w' := by
  go_enter Try.func87, Try.ntmps87
  go_wp2
  exact bodyPost_ret (v := shV 19) (by simp [results, Try.results87, go_sem]; rfl) rfl ⟨rfl, (Below.refl _ _).alloc (Nat.le_refl _) _⟩
theorem pShape_20 (w : World) : Calls Try.prog 87 #[.int .i64 20] w fun e w' => e = .returned (shV 20) ∧ Below w.heap.size w w' := by
  go_enter Try.func87, Try.ntmps87
  go_wp2
  exact bodyPost_ret (v := shV 20) (by simp [results, Try.results87, go_sem]; rfl) rfl ⟨rfl, (Below.refl _ _).alloc (Nat.le_refl _) _⟩
theorem pShape_21 (w : World) : Calls Try.prog 87 #[.int .i64 21] w fun e w' => e = .returned (shV 21) ∧ Below w.heap.size w w' := by
  go_enter Try.func87, Try.ntmps87
  go_wp2
  exact bodyPost_ret (v := shV 21) (by simp [results, Try.results87, go_sem]; rfl) rfl ⟨rfl, (Below.refl _ _).alloc (Nat.le_refl _) _⟩
theorem pShape_un (op : Int) (hk : known op = false) (w : World) : Calls Try.prog 87 #[.int .i64 op] w fun e w' => e = .returned (shV op) ∧ Below w.heap.size w w' := by
  have hn : op < 1 ∨ 21 < op := by
    unfold known at hk
    simp only [Bool.and_eq_false_iff, decide_eq_false_iff_not] at hk
    omega
  have e : shV op = .tuple #[.agg #[.int .i64 0, .int .i64 0, .int .i64 0, .int .i64 0], .bool false] := by
    have a1 : hasAgent op = false := by simp only [hasAgent, Bool.or_eq_false_iff, decide_eq_false_iff_not]; omega
    have a2 : hasGroup op = false := by simp only [hasGroup, Bool.and_eq_false_iff, decide_eq_false_iff_not]; omega
    have a3 : usesX op = false := by simp only [usesX, Bool.and_eq_false_iff, decide_eq_false_iff_not]; omega
    have a4 : usesY op = false := by simp only [usesY, Bool.or_eq_false_iff, Bool.and_eq_false_iff, decide_eq_false_iff_not]; omega
    unfold shV shC shN shE shG shO
    have h3 : op ≠ 3 := by omega
    have h17 : op ≠ 17 := by omega
    rw [a1, a2, a3, a4, hk]
    simp [h3, h17]
  rw [e]
  have ne : ∀ k : Int, 1 ≤ k → k ≤ 21 → (op == k) = false := fun k h1 h2 => by simp; omega
  have n1 := ne 1 (by omega) (by omega)
  have n2 := ne 2 (by omega) (by omega)
  have n3 := ne 3 (by omega) (by omega)
  have n4 := ne 4 (by omega) (by omega)
  have n5 := ne 5 (by omega) (by omega)
  have n6 := ne 6 (by omega) (by omega)
  have n7 := ne 7 (by omega) (by omega)
  have n8 := ne 8 (by omega) (by omega)
  have n9 := ne 9 (by omega) (by omega)
  have n10 := ne 10 (by omega) (by omega)
  have n11 := ne 11 (by omega) (by omega)
  have n12 := ne 12 (by omega) (by omega)
  have n13 := ne 13 (by omega) (by omega)
  have n14 := ne 14 (by omega) (by omega)
  have n15 := ne 15 (by omega) (by omega)
  have n16 := ne 16 (by omega) (by omega)
  have n17 := ne 17 (by omega) (by omega)
  have n18 := ne 18 (by omega) (by omega)
  have n19 := ne 19 (by omega) (by omega)
  have n20 := ne 20 (by omega) (by omega)
  have n21 := ne 21 (by omega) (by omega)
  clear ne e hk hn
  go_enter Try.func87, Try.ntmps87
  go_wp2
  exact bodyPost_ret (v := .tuple #[.agg #[.int .i64 0, .int .i64 0, .int .i64 0, .int .i64 0], .bool false]) (by simp [results, Try.results87, go_sem]) rfl ⟨rfl, (Below.refl _ _).alloc (Nat.le_refl _) _⟩
theorem pShape_any (op : Int) (w : World) : Calls Try.prog 87 #[.int .i64 op] w fun e w' => e = .returned (shV op) ∧ Below w.heap.size w w' := by
  cases hk : known op with
  | true =>
    rcases known_cases op hk with rfl | rfl | rfl | rfl | rfl | rfl | rfl | rfl | rfl | rfl | rfl | rfl | rfl | rfl | rfl | rfl | rfl | rfl | rfl | rfl | rfl
    · exact pShape_1 w
    · exact pShape_2 w
    · exact pShape_3 w
    · exact pShape_4 w
    · exact pShape_5 w
    · exact pShape_6 w
    · exact pShape_7 w
    · exact pShape_8 w
    · exact pShape_9 w
    · exact pShape_10 w
    · exact pShape_11 w
    · exact pShape_12 w
    · exact pShape_13 w
    · exact pShape_14 w
    · exact pShape_15 w
    · exact pShape_16 w
    · exact pShape_17 w
    · exact pShape_18 w
    · exact pShape_19 w
    · exact pShape_20 w
    · exact pShape_21 w
  | false => exact pShape_un op hk w
end Go.Proofs.Ytcbmncafmofcpaa
