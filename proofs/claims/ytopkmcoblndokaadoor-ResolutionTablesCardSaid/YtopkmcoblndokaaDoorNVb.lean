/- Layer 6: texts joined: Ka Kb Kc. -/
import Derived.Test.YtopkmcoblndokaaDoorNVa
/- Layer 5: nodes in cells; limits, shapes, the check of a node. -/
namespace Go.Proofs.YtopkmcoblndokaaDoor
open Go.RowKit Go.Proofs.Ws
/-- a node as a value -/
def nv (n : Nd) : Value := .agg #[.int .i64 n.op, .int .i64 n.i, .int .i64 n.e, .int .i64 n.g, .int .i64 n.x, .int .i64 n.y]
def ndC (n : Nd) : List Value := [.int .i64 n.op, .int .i64 n.i, .int .i64 n.e, .int .i64 n.g, .int .i64 n.x, .int .i64 n.y]
def nds (l : List Nd) : List Value := l.flatMap ndC
theorem nds_length (l : List Nd) : (nds l).length = l.length * 6 := by
  induction l with
  | nil => rfl
  | cons n l ih =>
    unfold nds at ih ⊢
    rw [List.flatMap_cons, List.length_append, ih, List.length_cons]
    simp [ndC]
    omega
theorem nds_append (l m : List Nd) : nds (l ++ m) = nds l ++ nds m := by simp [nds]
theorem nds_at : ∀ (l : List Nd) (k j : Nat), k < l.length → j < 6 → (nds l)[k * 6 + j]? = (ndC (l.getD k nd0))[j]?
  | [], k, _, h, _ => absurd h (by simp)
  | n :: l, 0, j, _, hj => by
    unfold nds
    rw [List.flatMap_cons, List.getElem?_append_left (by simp [ndC]; omega), Nat.zero_mul, Nat.zero_add]
    rfl
  | n :: l, k + 1, j, h, hj => by
    have ih := nds_at l k j (by simpa using h) hj
    unfold nds at ih ⊢
    rw [List.flatMap_cons, List.getElem?_append_right (by simp [ndC]; omega)]
    have e : (k + 1) * 6 + j - (ndC n).length = k * 6 + j := by simp [ndC]; omega
    rw [e, ih]
    rfl
theorem Reads.nd_len {w : World} {B n : Nat} {A : Option Addr} {l : List Nd} (h : Reads w B 6 A n (nds l)) : l.length = n := by
  have := h.1; rw [nds_length] at this; omega
theorem Reads.nd_at {w : World} {B n : Nat} {A : Option Addr} {l : List Nd} (h : Reads w B 6 A n (nds l)) {k : Nat} (hk : k < n) :
    ∃ ad, A = some ad ∧ ad.block < B ∧ w.cell? (ad.add (k * 6)) = some (.int .i64 (l.getD k nd0).op) ∧ w.cell? (ad.add (k * 6 + 1)) = some (.int .i64 (l.getD k nd0).i) ∧ w.cell? (ad.add (k * 6 + 2)) = some (.int .i64 (l.getD k nd0).e) ∧
      w.cell? (ad.add (k * 6 + 3)) = some (.int .i64 (l.getD k nd0).g) ∧ w.cell? (ad.add (k * 6 + 4)) = some (.int .i64 (l.getD k nd0).x) ∧ w.cell? (ad.add (k * 6 + 5)) = some (.int .i64 (l.getD k nd0).y) := by
  have hl := h.nd_len
  obtain ⟨ad, hA, hb, hc⟩ := h.2 (by omega)
  have at_ : ∀ j, j < 6 → ∀ u, (ndC (l.getD k nd0))[j]? = some u → w.cell? (ad.add (k * 6 + j)) = some u := fun j hj u hu => hc _ u (by rw [nds_at l k j (by omega) hj]; exact hu)
  exact ⟨ad, hA, hb, at_ 0 (by omega) _ rfl, at_ 1 (by omega) _ rfl, at_ 2 (by omega) _ rfl, at_ 3 (by omega) _ rfl, at_ 4 (by omega) _ rfl, at_ 5 (by omega) _ rfl⟩
theorem pIsBelow_any (n l : Int) (w : World) : Calls Tryd.prog 86 #[.int .i64 n, .int .i64 l] w fun e w' => e = .returned (.bool (decide (0 ≤ n) && decide (n < l))) ∧ w = w' := by
  cases h1 : decide (0 ≤ n) with
  | false =>
    go_enter Tryd.func86, Tryd.ntmps86
    go_wp2
    go_ret
    exact ⟨rfl, rfl⟩
  | true =>
    obtain ⟨b, h2⟩ : ∃ b, decide (n < l) = b := ⟨_, rfl⟩
    rw [h2]
    cases b
    all_goals
      go_enter Tryd.func86, Tryd.ntmps86
      go_wp2
      go_ret
      exact ⟨rfl, rfl⟩
end Go.Proofs.YtopkmcoblndokaaDoor
/- Layer 5: shapeOf. -/
namespace Go.Proofs.YtopkmcoblndokaaDoor
open Go.RowKit Go.Proofs.Ws
def shC (op : Int) : Value := .agg #[.int .i64 (shN op), .int .i64 (shE op), .int .i64 (shG op), .int .i64 (shO op)]
def shV (op : Int) : Value := .tuple #[shC op, .bool (known op)]
theorem known_cases (op : Int) (h : known op = true) : op = 1 ∨ op = 2 ∨ op = 3 ∨ op = 4 ∨ op = 5 ∨ op = 6 ∨ op = 7 ∨ op = 8 ∨ op = 9 ∨ op = 10 ∨ op = 11 ∨ op = 12 ∨ op = 13 ∨ op = 14 ∨ op = 15 ∨ op = 16 ∨ op = 17 ∨ op = 18 ∨ op = 19 ∨ op = 20 ∨ op = 21 := by
  unfold known at h
  simp only [Bool.and_eq_true, decide_eq_true_eq] at h
  omega
theorem pShape_1 (w : World) : Calls Tryd.prog 63 #[.int .i64 1] w fun e w' => e = .returned (shV 1) ∧ Below w.heap.size w w' := by
  go_enter Tryd.func63, Tryd.ntmps63
  go_wp2
  exact bodyPost_ret (v := shV 1) (by simp [results, Tryd.results63, go_sem]; rfl) rfl ⟨rfl, (Below.refl _ _).alloc (Nat.le_refl _) _⟩
theorem pShape_2 (w : World) : Calls Tryd.prog 63 #[.int .i64 2] w fun e w' => e = .returned (shV 2) ∧ Below w.heap.size w w' := by
  go_enter Tryd.func63, Tryd.ntmps63
  go_wp2
  exact bodyPost_ret (v := shV 2) (by simp [results, Tryd.results63, go_sem]; rfl) rfl ⟨rfl, (Below.refl _ _).alloc (Nat.le_refl _) _⟩
theorem pShape_3 (w : World) : Calls Tryd.prog 63 #[.int .i64 3] w fun e w' => e = .returned (shV 3) ∧ Below w.heap.size w w' := by
  go_enter Tryd.func63, Tryd.ntmps63
  go_wp2
  exact bodyPost_ret (v := shV 3) (by simp [results, Tryd.results63, go_sem]; rfl) rfl ⟨rfl, (Below.refl _ _).alloc (Nat.le_refl _) _⟩
theorem pShape_4 (w : World) : Calls Tryd.prog 63 #[.int .i64 4] w fun e w' => e = .returned (shV 4) ∧ Below w.heap.size w w' := by
  go_enter Tryd.func63, Tryd.ntmps63
  go_wp2
  exact bodyPost_ret (v := shV 4) (by simp [results, Tryd.results63, go_sem]; rfl) rfl ⟨rfl, (Below.refl _ _).alloc (Nat.le_refl _) _⟩
theorem pShape_5 (w : World) : Calls Tryd.prog 63 #[.int .i64 5] w fun e w' => e = .returned (shV 5) ∧ Below w.heap.size w w' := by
  go_enter Tryd.func63, Tryd.ntmps63
  go_wp2
  exact bodyPost_ret (v := shV 5) (by simp [results, Tryd.results63, go_sem]; rfl) rfl ⟨rfl, (Below.refl _ _).alloc (Nat.le_refl _) _⟩
theorem pShape_6 (w : World) : Calls Tryd.prog 63 #[.int .i64 6] w fun e w' => e = .returned (shV 6) ∧ Below w.heap.size w w' := by
  go_enter Tryd.func63, Tryd.ntmps63
  go_wp2
  exact bodyPost_ret (v := shV 6) (by simp [results, Tryd.results63, go_sem]; rfl) rfl ⟨rfl, (Below.refl _ _).alloc (Nat.le_refl _) _⟩
theorem pShape_7 (w : World) : Calls Tryd.prog 63 #[.int .i64 7] w fun e w' => e = .returned (shV 7) ∧ Below w.heap.size w w' := by
  go_enter Tryd.func63, Tryd.ntmps63
  go_wp2
  exact bodyPost_ret (v := shV 7) (by simp [results, Tryd.results63, go_sem]; rfl) rfl ⟨rfl, (Below.refl _ _).alloc (Nat.le_refl _) _⟩
theorem pShape_8 (w : World) : Calls Tryd.prog 63 #[.int .i64 8] w fun e w' => e = .returned (shV 8) ∧ Below w.heap.size w w' := by
  go_enter Tryd.func63, Tryd.ntmps63
  go_wp2
  exact bodyPost_ret (v := shV 8) (by simp [results, Tryd.results63, go_sem]; rfl) rfl ⟨rfl, (Below.refl _ _).alloc (Nat.le_refl _) _⟩
theorem pShape_9 (w : World) : Calls Tryd.prog 63 #[.int .i64 9] w fun e w' => e = .returned (shV 9) ∧ Below w.heap.size w w' := by
  go_enter Tryd.func63, Tryd.ntmps63
  go_wp2
  exact bodyPost_ret (v := shV 9) (by simp [results, Tryd.results63, go_sem]; rfl) rfl ⟨rfl, (Below.refl _ _).alloc (Nat.le_refl _) _⟩
theorem pShape_10 (w : World) : Calls Tryd.prog 63 #[.int .i64 10] w fun e w' => e = .returned (shV 10) ∧ Below w.heap.size w w' := by
  go_enter Tryd.func63, Tryd.ntmps63
  go_wp2
  exact bodyPost_ret (v := shV 10) (by simp [results, Tryd.results63, go_sem]; rfl) rfl ⟨rfl, (Below.refl _ _).alloc (Nat.le_refl _) _⟩
theorem pShape_11 (w : World) : Calls Tryd.prog 63 #[.int .i64 11] w fun e w' => e = .returned (shV 11) ∧ Below w.heap.size w w' := by
  go_enter Tryd.func63, Tryd.ntmps63
  go_wp2
  exact bodyPost_ret (v := shV 11) (by simp [results, Tryd.results63, go_sem]; rfl) rfl ⟨rfl, (Below.refl _ _).alloc (Nat.le_refl _) _⟩
theorem pShape_12 (w : World) : Calls Tryd.prog 63 #[.int .i64 12] w fun e w' => e = .returned (shV 12) ∧ Below w.heap.size w w' := by
  go_enter Tryd.func63, Tryd.ntmps63
  go_wp2
  exact bodyPost_ret (v := shV 12) (by simp [results, Tryd.results63, go_sem]; rfl) rfl ⟨rfl, (Below.refl _ _).alloc (Nat.le_refl _) _⟩
theorem pShape_13 (w : World) : Calls Tryd.prog 63 #[.int .i64 13] w fun e w' => e = .returned (shV 13) ∧ Below w.heap.size w w' := by
  go_enter Tryd.func63, Tryd.ntmps63
  go_wp2
  exact bodyPost_ret (v := shV 13) (by simp [results, Tryd.results63, go_sem]; rfl) rfl ⟨rfl, (Below.refl _ _).alloc (Nat.le_refl _) _⟩
theorem pShape_14 (w : World) : Calls Tryd.prog 63 #[.int .i64 14] w fun e w' => e = .returned (shV 14) ∧ Below w.heap.size w w' := by
  go_enter Tryd.func63, Tryd.ntmps63
  go_wp2
  exact bodyPost_ret (v := shV 14) (by simp [results, Tryd.results63, go_sem]; rfl) rfl ⟨rfl, (Below.refl _ _).alloc (Nat.le_refl _) _⟩
theorem pShape_15 (w : World) : Calls Tryd.prog 63 #[.int .i64 15] w fun e w' => e = .returned (shV 15) ∧ Below w.heap.size w w' := by
  go_enter Tryd.func63, Tryd.ntmps63
  go_wp2
  exact bodyPost_ret (v := shV 15) (by simp [results, Tryd.results63, go_sem]; rfl) rfl ⟨rfl, (Below.refl _ _).alloc (Nat.le_refl _) _⟩
theorem pShape_16 (w : World) : Calls Tryd.prog 63 #[.int .i64 16] w fun e w' => e = .returned (shV 16) ∧ Below w.heap.size w w' := by
  go_enter Tryd.func63, Tryd.ntmps63
  go_wp2
  exact bodyPost_ret (v := shV 16) (by simp [results, Tryd.results63, go_sem]; rfl) rfl ⟨rfl, (Below.refl _ _).alloc (Nat.le_refl _) _⟩
theorem pShape_17 (w : World) : Calls Tryd.prog 63 #[.int .i64 17] w fun e w' => e = .returned (shV 17) ∧ Below w.heap.size w w' := by
  go_enter Tryd.func63, Tryd.ntmps63
  go_wp2
  exact bodyPost_ret (v := shV 17) (by simp [results, Tryd.results63, go_sem]; rfl) rfl ⟨rfl, (Below.refl _ _).alloc (Nat.le_refl _) _⟩
theorem pShape_18 (w : World) : Calls Tryd.prog 63 #[.int .i64 18] w fun e w' => e = .returned (shV 18) ∧ Below w.heap.size w w' := by
  go_enter Tryd.func63, Tryd.ntmps63
  go_wp2
  exact bodyPost_ret (v := shV 18) (by simp [results, Tryd.results63, go_sem]; rfl) rfl ⟨rfl, (Below.refl _ _).alloc (Nat.le_refl _) _⟩
theorem pShape_19 (w : World) : Calls Tryd.prog 63 #[.int .i64 19] w fun e w' => e = .returned (shV 19) ∧ Below w.heap.size w w' := by
  go_enter Tryd.func63, Tryd.ntmps63
  go_wp2
  exact bodyPost_ret (v := shV 19) (by simp [results, Tryd.results63, go_sem]; rfl) rfl ⟨rfl, (Below.refl _ _).alloc (Nat.le_refl _) _⟩
theorem pShape_20 (w : World) : Calls Tryd.prog 63 #[.int .i64 20] w fun e w' => e = .returned (shV 20) ∧ Below w.heap.size w w' := by
  go_enter Tryd.func63, Tryd.ntmps63
  go_wp2
  exact bodyPost_ret (v := shV 20) (by simp [results, Tryd.results63, go_sem]; rfl) rfl ⟨rfl, (Below.refl _ _).alloc (Nat.le_refl _) _⟩
theorem pShape_21 (w : World) : Calls Tryd.prog 63 #[.int .i64 21] w fun e w' => e = .returned (shV 21) ∧ Below w.heap.size w w' := by
  go_enter Tryd.func63, Tryd.ntmps63
  go_wp2
  exact bodyPost_ret (v := shV 21) (by simp [results, Tryd.results63, go_sem]; rfl) rfl ⟨rfl, (Below.refl _ _).alloc (Nat.le_refl _) _⟩
theorem pShape_un (op : Int) (hk : known op = false) (w : World) : Calls Tryd.prog 63 #[.int .i64 op] w fun e w' => e = .returned (shV op) ∧ Below w.heap.size w w' := by
  have hn : op < 1 ∨ 21 < op := by
    unfold known at hk
    simp only [Bool.and_eq_false_iff, decide_eq_false_iff_not] at hk
    omega
  have e : shV op = .tuple #[.agg #[.int .i64 0, .int .i64 0, .int .i64 0, .int .i64 0], .bool false] := by
    have a1 : hasAgent op = false := by simp only [hasAgent, Bool.or_eq_false_iff, decide_eq_false_iff_not]; omega
    have a2 : hasGroup op = false := by simp only [hasGroup, Bool.and_eq_false_iff, decide_eq_false_iff_not]; omega
    have a3 : usesX op = false := by simp only [usesX, Bool.and_eq_false_iff, decide_eq_false_iff_not]; omega
    have a4 : usesY op = false := by simp only [usesY, Bool.or_eq_false_iff, Bool.and_eq_false_iff, decide_eq_false_iff_not]; omega
    unfold shV shC shN shE shG shO
    have h3 : op ≠ 3 := by omega
    have h17 : op ≠ 17 := by omega
    rw [a1, a2, a3, a4, hk]
    simp [h3, h17]
  rw [e]
  have ne : ∀ k : Int, 1 ≤ k → k ≤ 21 → (op == k) = false := fun k h1 h2 => by simp; omega
  have n1 := ne 1 (by omega) (by omega)
  have n2 := ne 2 (by omega) (by omega)
  have n3 := ne 3 (by omega) (by omega)
  have n4 := ne 4 (by omega) (by omega)
  have n5 := ne 5 (by omega) (by omega)
  have n6 := ne 6 (by omega) (by omega)
  have n7 := ne 7 (by omega) (by omega)
  have n8 := ne 8 (by omega) (by omega)
  have n9 := ne 9 (by omega) (by omega)
  have n10 := ne 10 (by omega) (by omega)
  have n11 := ne 11 (by omega) (by omega)
  have n12 := ne 12 (by omega) (by omega)
  have n13 := ne 13 (by omega) (by omega)
  have n14 := ne 14 (by omega) (by omega)
  have n15 := ne 15 (by omega) (by omega)
  have n16 := ne 16 (by omega) (by omega)
  have n17 := ne 17 (by omega) (by omega)
  have n18 := ne 18 (by omega) (by omega)
  have n19 := ne 19 (by omega) (by omega)
  have n20 := ne 20 (by omega) (by omega)
  have n21 := ne 21 (by omega) (by omega)
  clear ne e hk hn
  go_enter Tryd.func63, Tryd.ntmps63
  go_wp2
  exact bodyPost_ret (v := .tuple #[.agg #[.int .i64 0, .int .i64 0, .int .i64 0, .int .i64 0], .bool false]) (by simp [results, Tryd.results63, go_sem]) rfl ⟨rfl, (Below.refl _ _).alloc (Nat.le_refl _) _⟩
theorem pShape_any (op : Int) (w : World) : Calls Tryd.prog 63 #[.int .i64 op] w fun e w' => e = .returned (shV op) ∧ Below w.heap.size w w' := by
  cases hk : known op with
  | true =>
    rcases known_cases op hk with rfl | rfl | rfl | rfl | rfl | rfl | rfl | rfl | rfl | rfl | rfl | rfl | rfl | rfl | rfl | rfl | rfl | rfl | rfl | rfl | rfl
    · exact pShape_1 w
    · exact pShape_2 w
    · exact pShape_3 w
    · exact pShape_4 w
    · exact pShape_5 w
    · exact pShape_6 w
    · exact pShape_7 w
    · exact pShape_8 w
    · exact pShape_9 w
    · exact pShape_10 w
    · exact pShape_11 w
    · exact pShape_12 w
    · exact pShape_13 w
    · exact pShape_14 w
    · exact pShape_15 w
    · exact pShape_16 w
    · exact pShape_17 w
    · exact pShape_18 w
    · exact pShape_19 w
    · exact pShape_20 w
    · exact pShape_21 w
  | false => exact pShape_un op hk w
end Go.Proofs.YtopkmcoblndokaaDoor
/- Layer 5: what a shape says of a node: operands, the rest, ranges. -/
namespace Go.Proofs.YtopkmcoblndokaaDoor
open Go.RowKit Go.Proofs.Ws
def isB (n l : Int) : Bool := decide (0 ≤ n) && decide (n < l)
theorem pIsB_any (n l : Int) (w : World) : Calls Tryd.prog 86 #[.int .i64 n, .int .i64 l] w fun e w' => e = .returned (.bool (isB n l)) ∧ w = w' := pIsBelow_any n l w
def shc (N E G O : Int) : Value := .agg #[.int .i64 N, .int .i64 E, .int .i64 G, .int .i64 O]
set_option maxHeartbeats 2000000 in
theorem pHasOps_any (N E G O idx : Int) (n : Nd) (w : World) : Calls Tryd.prog 64 #[shc N E G O, nv n, .int .i64 idx] w fun e w' =>
    e = .returned (.bool ((decide (O < 1) || isB n.x idx) && (decide (O < 2) || isB n.y idx))) ∧ Below w.heap.size w w' := by
  obtain ⟨op, i, e, g, x, y⟩ := n
  unfold shc nv
  have HB : Hid (∀ o o', Below w.heap.size w ((w.alloc o).alloc o')) := Lib.hid (fun o o' => ((Below.refl _ w).alloc (Nat.le_refl _) o).alloc (by simp) o')
  show Calls _ _ _ _ fun e w' => e = .returned (.bool ((decide (O < 1) || isB x idx) && (decide (O < 2) || isB y idx))) ∧ Below w.heap.size w w'
  obtain ⟨bx, hx⟩ : ∃ b, isB x idx = b := ⟨_, rfl⟩
  obtain ⟨by_, hy⟩ : ∃ b, isB y idx = b := ⟨_, rfl⟩
  obtain ⟨b1, h1⟩ : ∃ b, decide (O < 1) = b := ⟨_, rfl⟩
  obtain ⟨b2, h2⟩ : ∃ b, decide (O < 2) = b := ⟨_, rfl⟩
  rw [h1, h2, hx, hy]
  cases b1 <;> cases b2 <;> cases bx <;> cases by_
  all_goals
    go_enter Tryd.func64, Tryd.ntmps64
    go_wp2_with (first | (go_at_call 86; refine (pIsB_any _ _ _).mono ?_; rintro e w' ⟨rfl, rfl⟩))
    go_ret
    first
    | exact ⟨rfl, HB.out _ _⟩
    | exact ⟨ret_bool hx, HB.out _ _⟩
    | exact ⟨ret_bool hy, HB.out _ _⟩
end Go.Proofs.YtopkmcoblndokaaDoor
