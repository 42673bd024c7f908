/- Layer 6: texts joined: Km Ka Kb Kc Kp. -/
import Derived.Test.YtkhalapppkhopaaDoorNJa
import Derived.Lib.Hide
/- Layer 5 as plain mathematics: nodes, their form, the error of a list of nodes, the canonical list (no program in sight). -/
namespace Go.Proofs.Ws
open Go
/-- a node: operator, number, event, group, operands -/
structure Nd where
  op : Int
  i : Int
  e : Int
  g : Int
  x : Int
  y : Int
deriving DecidableEq
def usesX (op : Int) : Bool := decide (4 ≤ op) && decide (op ≤ 21)
def usesY (op : Int) : Bool := (decide (5 ≤ op) && decide (op ≤ 8)) || decide (op = 13) || decide (op = 14) || decide (op = 16) || decide (op = 19) || decide (op = 21)
def hasAgent (op : Int) : Bool := decide (op = 9) || decide (op = 10) || decide (op = 14) || decide (op = 15)
def hasGroup (op : Int) : Bool := decide (11 ≤ op) && decide (op ≤ 13)
def known (op : Int) : Bool := decide (1 ≤ op) && decide (op ≤ 21)
/-- the limits of the fields: 0 for a field that is not used -/
def shN (op : Int) : Int := if op = 3 then 8 else if hasAgent op = true then 4 else if op = 17 then 8 else 0
def shE (op : Int) : Int := if op = 17 then 8 else 0
def shG (op : Int) : Int := if hasGroup op = true then 15 else 0
def shO (op : Int) : Int := if usesY op = true then 2 else if usesX op = true then 1 else 0
/-- the operands that are used are earlier nodes, the fields that are not used are 0 -/
def formOk (n : Nd) (at_ : Int) : Bool :=
  (if usesX n.op = true then decide (0 ≤ n.x) && decide (n.x < at_) else decide (n.x = 0)) &&
  (if usesY n.op = true then decide (0 ≤ n.y) && decide (n.y < at_) else decide (n.y = 0)) &&
  (decide (n.op = 3) || hasAgent n.op || decide (n.op = 17) || decide (n.i = 0)) && (decide (n.op = 17) || decide (n.e = 0)) && (hasGroup n.op || decide (n.g = 0))
def rangeOk (n : Nd) : Bool :=
  (shN n.op == 0 || (decide (0 ≤ n.i) && decide (n.i < shN n.op))) && (shE n.op == 0 || (decide (0 ≤ n.e) && decide (n.e < shE n.op))) && (shG n.op == 0 || (decide (1 ≤ n.g) && decide (n.g ≤ shG n.op)))
/-- the error of a node at a place -/
def nodeErr (n : Nd) (at_ : Int) : Int := if known n.op = false then 10 else if formOk n at_ = false then 3 else if rangeOk n = false then 2 else 0
/-- the first error from a place on -/
def errFrom : Nat → List Nd → Int
  | _, [] => 0
  | k, n :: ns => if nodeErr n (k : Int) ≠ 0 then nodeErr n (k : Int) else errFrom (k + 1) ns
def fErr (l : List Nd) : Int := if l.length = 0 then 3 else if 200 < l.length then 8 else errFrom 0 l
/-- the walk's state: the canonical list so far, and for each node its number in it -/
structure Wk where
  out : List Nd
  done : List (Option Nat)
def putNd (out : List Nd) (n : Nd) : Nat × List Nd := if n ∈ out then (out.idxOf n, out) else (out.length, out ++ [n])
def nd0 : Nd := ⟨0, 0, 0, 0, 0, 0⟩
def finW (f : List Nd) : Nat → Nat → Wk → Nat × Wk
  | 0, _, s => (0, s)
  | fuel + 1, i, s =>
    match s.done.getD i none with
    | some k => (k, s)
    | none =>
      let n := f.getD i nd0
      let r1 := if usesX n.op = true then finW f fuel n.x.toNat s else (n.x.toNat, s)
      let r2 := if usesY n.op = true then finW f fuel n.y.toNat r1.2 else (n.y.toNat, r1.2)
      let p := putNd r2.2.out { n with x := (r1.1 : Int), y := (r2.1 : Int) }
      (p.1, ⟨p.2, r2.2.done.set i (some p.1)⟩)
def canonF (f : List Nd) : List Nd := (finW f f.length (f.length - 1) ⟨[], List.replicate f.length none⟩).2.out
def compF (f : List Nd) : List Nd := if fErr f = 0 then canonF f else []
end Go.Proofs.Ws
/- Layer 5: nodes in cells; limits, shapes, the check of a node. -/
namespace Go.Proofs.YtkhalapppkhopaaDoor
open Go.RowKit Go.Proofs.Ws
/-- a node as a value -/
def nv (n : Nd) : Value := .agg #[.int .i64 n.op, .int .i64 n.i, .int .i64 n.e, .int .i64 n.g, .int .i64 n.x, .int .i64 n.y]
def ndC (n : Nd) : List Value := [.int .i64 n.op, .int .i64 n.i, .int .i64 n.e, .int .i64 n.g, .int .i64 n.x, .int .i64 n.y]
def nds (l : List Nd) : List Value := l.flatMap ndC
theorem nds_length (l : List Nd) : (nds l).length = l.length * 6 := by
  induction l with
  | nil => rfl
  | cons n l ih =>
    unfold nds at ih ⊢
    rw [List.flatMap_cons, List.length_append, ih, List.length_cons]
    simp [ndC]
    omega
theorem nds_append (l m : List Nd) : nds (l ++ m) = nds l ++ nds m := by simp [nds]
theorem nds_at : ∀ (l : List Nd) (k j : Nat), k < l.length → j < 6 → (nds l)[k * 6 + j]? = (ndC (l.getD k nd0))[j]?
  | [], k, _, h, _ => absurd h (by simp)
  | n :: l, 0, j, _, hj => by
    unfold nds
    rw [List.flatMap_cons, List.getElem?_append_left (by simp [ndC]; omega), Nat.zero_mul, Nat.zero_add]
    rfl
  | n :: l, k + 1, j, h, hj => by
    have ih := nds_at l k j (by simpa using h) hj
    unfold nds at ih ⊢
    rw [List.flatMap_cons, List.getElem?_append_right (by simp [ndC]; omega)]
    have e : (k + 1) * 6 + j - (ndC n).length = k * 6 + j := by simp [ndC]; omega
    rw [e, ih]
    rfl
theorem Reads.nd_len {w : World} {B n : Nat} {A : Option Addr} {l : List Nd} (h : Reads w B 6 A n (nds l)) : l.length = n := by
  have := h.1; rw [nds_length] at this; omega
theorem Reads.nd_at {w : World} {B n : Nat} {A : Option Addr} {l : List Nd} (h : Reads w B 6 A n (nds l)) {k : Nat} (hk : k < n) :
    ∃ ad, A = some ad ∧ ad.block < B ∧ w.cell? (ad.add (k * 6)) = some (.int .i64 (l.getD k nd0).op) ∧ w.cell? (ad.add (k * 6 + 1)) = some (.int .i64 (l.getD k nd0).i) ∧ w.cell? (ad.add (k * 6 + 2)) = some (.int .i64 (l.getD k nd0).e) ∧
      w.cell? (ad.add (k * 6 + 3)) = some (.int .i64 (l.getD k nd0).g) ∧ w.cell? (ad.add (k * 6 + 4)) = some (.int .i64 (l.getD k nd0).x) ∧ w.cell? (ad.add (k * 6 + 5)) = some (.int .i64 (l.getD k nd0).y) := by
  have hl := h.nd_len
  obtain ⟨ad, hA, hb, hc⟩ := h.2 (by omega)
  have at_ : ∀ j, j < 6 → ∀ u, (ndC (l.getD k nd0))[j]? = some u → w.cell? (ad.add (k * 6 + j)) = some u := fun j hj u hu => hc _ u (by rw [nds_at l k j (by omega) hj]; exact hu)
  exact ⟨ad, hA, hb, at_ 0 (by omega) _ rfl, at_ 1 (by omega) _ rfl, at_ 2 (by omega) _ rfl, at_ 3 (by omega) _ rfl, at_ 4 (by omega) _ rfl, at_ 5 (by omega) _ rfl⟩
theorem pIsBelow_any (n l : Int) (w : World) : Calls Tryd.prog 128 #[.int .i64 n, .int .i64 l] w fun e w' => e = .returned (.bool (decide (0 ≤ n) && decide (n < l))) ∧ w = w' := by
  cases h1 : decide (0 ≤ n) with
  | false =>
    go_enter Tryd.func128, Tryd.ntmps128
    go_wp2
    go_ret
    exact ⟨rfl, rfl⟩
  | true =>
    obtain ⟨b, h2⟩ : ∃ b, decide (n < l) = b := ⟨_, rfl⟩
    rw [h2]
    cases b
    all_goals
      go_enter Tryd.func128, Tryd.ntmps128
      go_wp2
      go_ret
      exact ⟨rfl, rfl⟩
end Go.Proofs.YtkhalapppkhopaaDoor
/- Layer 5: shapeOf. -/
namespace Go.Proofs.YtkhalapppkhopaaDoor
open Go.RowKit Go.Proofs.Ws
def shC (op : Int) : Value := .agg #[.int .i64 (shN op), .int .i64 (shE op), .int .i64 (shG op), .int .i64 (shO op)]
def shV (op : Int) : Value := .tuple #[shC op, .bool (known op)]
theorem known_cases (op : Int) (h : known op = true) : op = 1 ∨ op = 2 ∨ op = 3 ∨ op = 4 ∨ op = 5 ∨ op = 6 ∨ op = 7 ∨ op = 8 ∨ op = 9 ∨ op = 10 ∨ op = 11 ∨ op = 12 ∨ op = 13 ∨ op = 14 ∨ op = 15 ∨ op = 16 ∨ op = 17 ∨ op = 18 ∨ op = 19 ∨ op = 20 ∨ op = 21 := by
  unfold known at h
  simp only [Bool.and_eq_true, decide_eq_true_eq] at h
  omega
theorem pShape_1 (w : World) : Calls Tryd.prog 109 #[.int .i64 1] w fun e w' => e = .returned (shV 1) ∧ Below w.heap.size w w' := by
  go_enter Tryd.func109, Tryd.ntmps109
  go_wp2
  exact bodyPost_ret (v := shV 1) (by simp [results, Tryd.results109, go_sem]; rfl) rfl ⟨rfl, (Below.refl _ _).alloc (Nat.le_refl _) _⟩
theorem pShape_2 (w : World) : Calls Tryd.prog 109 #[.int .i64 2] w fun e w' => e = .returned (shV 2) ∧ Below w.heap.size w w' := by
  go_enter Tryd.func109, Tryd.ntmps109
  go_wp2
  exact bodyPost_ret (v := shV 2) (by simp [results, Tryd.results109, go_sem]; rfl) rfl ⟨rfl, (Below.refl _ _).alloc (Nat.le_refl _) _⟩
theorem pShape_3 (w : World) : Calls Tryd.prog 109 #[.int .i64 3] w fun e w' => e = .returned (shV 3) ∧ Below w.heap.size w w' := by
  go_enter Tryd.func109, Tryd.ntmps109
  go_wp2
  exact bodyPost_ret (v := shV 3) (by simp [results, Tryd.results109, go_sem]; rfl) rfl ⟨rfl, (Below.refl _ _).alloc (Nat.le_refl _) _⟩
theorem pShape_4 (w : World) : Calls Tryd.prog 109 #[.int .i64 4] w fun e w' => e = .returned (shV 4) ∧ Below w.heap.size w w' := by
  go_enter Tryd.func109, Tryd.ntmps109
  go_wp2
  exact bodyPost_ret (v := shV 4) (by simp [results, Tryd.results109, go_sem]; rfl) rfl ⟨rfl, (Below.refl _ _).alloc (Nat.le_refl _) _⟩
theorem pShape_5 (w : World) : Calls Tryd.prog 109 #[.int .i64 5] w fun e w' => e = .returned (shV 5) ∧ Below w.heap.size w w' := by
  go_enter Tryd.func109, Tryd.ntmps109
  go_wp2
  exact bodyPost_ret (v := shV 5) (by simp [results, Tryd.results109, go_sem]; rfl) rfl ⟨rfl, (Below.refl _ _).alloc (Nat.le_refl _) _⟩
theorem pShape_6 (w : World) : Calls Tryd.prog 109 #[.int .i64 6] w fun e w' => e = .returned (shV 6) ∧ Below w.heap.size w w' := by
  go_enter Tryd.func109, Tryd.ntmps109
  go_wp2
  exact bodyPost_ret (v := shV 6) (by simp [results, Tryd.results109, go_sem]; rfl) rfl ⟨rfl, (Below.refl _ _).alloc (Nat.le_refl _) _⟩
theorem pShape_7 (w : World) : Calls Tryd.prog 109 #[.int .i64 7] w fun e w' => e = .returned (shV 7) ∧ Below w.heap.size w w' := by
  go_enter Tryd.func109, Tryd.ntmps109
  go_wp2
  exact bodyPost_ret (v := shV 7) (by simp [results, Tryd.results109, go_sem]; rfl) rfl ⟨rfl, (Below.refl _ _).alloc (Nat.le_refl _) _⟩
theorem pShape_8 (w : World) : Calls Tryd.prog 109 #[.int .i64 8] w fun e w' => e = .returned (shV 8) ∧ Below w.heap.size w w' := by
  go_enter Tryd.func109, Tryd.ntmps109
  go_wp2
  exact bodyPost_ret (v := shV 8) (by simp [results, Tryd.results109, go_sem]; rfl) rfl ⟨rfl, (Below.refl _ _).alloc (Nat.le_refl _) _⟩
theorem pShape_9 (w : World) : Calls Tryd.prog 109 #[.int .i64 9] w fun e w' => e = .returned (shV 9) ∧ Below w.heap.size w w' := by
  go_enter Tryd.func109, Tryd.ntmps109
  go_wp2
  exact bodyPost_ret (v := shV 9) (by simp [results, Tryd.results109, go_sem]; rfl) rfl ⟨rfl, (Below.refl _ _).alloc (Nat.le_refl _) _⟩
theorem pShape_10 (w : World) : Calls Tryd.prog 109 #[.int .i64 10] w fun e w' => e = .returned (shV 10) ∧ Below w.heap.size w w' := by
  go_enter Tryd.func109, Tryd.ntmps109
  go_wp2
  exact bodyPost_ret (v := shV 10) (by simp [results, Tryd.results109, go_sem]; rfl) rfl ⟨rfl, (Below.refl _ _).alloc (Nat.le_refl _) _⟩
theorem pShape_11 (w : World) : Calls Tryd.prog 109 #[.int .i64 11] w fun e w' => e = .returned (shV 11) ∧ Below w.heap.size w w' := by
  go_enter Tryd.func109, Tryd.ntmps109
  go_wp2
  exact bodyPost_ret (v := shV 11) (by simp [results, Tryd.results109, go_sem]; rfl) rfl ⟨rfl, (Below.refl _ _).alloc (Nat.le_refl _) _⟩
theorem pShape_12 (w : World) : Calls Tryd.prog 109 #[.int .i64 12] w fun e w' => e = .returned (shV 12) ∧ Below w.heap.size w w' := by
  go_enter Tryd.func109, Tryd.ntmps109
  go_wp2
  exact bodyPost_ret (v := shV 12) (by simp [results, Tryd.results109, go_sem]; rfl) rfl ⟨rfl, (Below.refl _ _).alloc (Nat.le_refl _) _⟩
theorem pShape_13 (w : World) : Calls Tryd.prog 109 #[.int .i64 13] w fun e w' => e = .returned (shV 13) ∧ Below w.heap.size w w' := by
  go_enter Tryd.func109, Tryd.ntmps109
  go_wp2
  exact bodyPost_ret (v := shV 13) (by simp [results, Tryd.results109, go_sem]; rfl) rfl ⟨rfl, (Below.refl _ _).alloc (Nat.le_refl _) _⟩
theorem pShape_14 (w : World) : Calls Tryd.prog 109 #[.int .i64 14] w fun e w' => e = .returned (shV 14) ∧ Below w.heap.size w w' := by
  go_enter Tryd.func109, Tryd.ntmps109
  go_wp2
  exact bodyPost_ret (v := shV 14) (by simp [results, Tryd.results109, go_sem]; rfl) rfl ⟨rfl, (Below.refl _ _).alloc (Nat.le_refl _) _⟩
theorem pShape_15 (w : World) : Calls Tryd.prog 109 #[.int .i64 15] w fun e w' => e = .returned (shV 15) ∧ Below w.heap.size w w' := by
  go_enter Tryd.func109, Tryd.ntmps109
  go_wp2
  exact bodyPost_ret (v := shV 15) (by simp [results, Tryd.results109, go_sem]; rfl) rfl ⟨rfl, (Below.refl _ _).alloc (Nat.le_refl _) _⟩
theorem pShape_16 (w : World) : Calls Tryd.prog 109 #[.int .i64 16] w fun e w' => e = .returned (shV 16) ∧ Below w.heap.size w w' := by
  go_enter Tryd.func109, Tryd.ntmps109
  go_wp2
  exact bodyPost_ret (v := shV 16) (by simp [results, Tryd.results109, go_sem]; rfl) rfl ⟨rfl, (Below.refl _ _).alloc (Nat.le_refl _) _⟩
theorem pShape_17 (w : World) : Calls Tryd.prog 109 #[.int .i64 17] w fun e w' => e = .returned (shV 17) ∧ Below w.heap.size w w' := by
  go_enter Tryd.func109, Tryd.ntmps109
  go_wp2
  exact bodyPost_ret (v := shV 17) (by simp [results, Tryd.results109, go_sem]; rfl) rfl ⟨rfl, (Below.refl _ _).alloc (Nat.le_refl _) _⟩
theorem pShape_18 (w : World) : Calls Tryd.prog 109 #[.int .i64 18] w fun e w' => e = .returned (shV 18) ∧ Below w.heap.size w w' := by
  go_enter Tryd.func109, Tryd.ntmps109
  go_wp2
  exact bodyPost_ret (v := shV 18) (by simp [results, Tryd.results109, go_sem]; rfl) rfl ⟨rfl, (Below.refl _ _).alloc (Nat.le_refl _) _⟩
theorem pShape_19 (w : World) : Calls Tryd.prog 109 #[.int .i64 19] w fun e w' => e = .returned (shV 19) ∧ Below w.heap.size w w' := by
  go_enter Tryd.func109, Tryd.ntmps109
  go_wp2
  exact bodyPost_ret (v := shV 19) (by simp [results, Tryd.results109, go_sem]; rfl) rfl ⟨rfl, (Below.refl _ _).alloc (Nat.le_refl _) _⟩
theorem pShape_20 (w : World) : Calls Tryd.prog 109 #[.int .i64 20] w fun e w' => e = .returned (shV 20) ∧ Below w.heap.size w w' := by
  go_enter Tryd.func109, Tryd.ntmps109
  go_wp2
  exact bodyPost_ret (v := shV 20) (by simp [results, Tryd.results109, go_sem]; rfl) rfl ⟨rfl, (Below.refl _ _).alloc (Nat.le_refl _) _⟩
theorem pShape_21 (w : World) : Calls Tryd.prog 109 #[.int .i64 21] w fun e w' => e = .returned (shV 21) ∧ Below w.heap.size w w' := by
  go_enter Tryd.func109, Tryd.ntmps109
  go_wp2
  exact bodyPost_ret (v := shV 21) (by simp [results, Tryd.results109, go_sem]; rfl) rfl ⟨rfl, (Below.refl _ _).alloc (Nat.le_refl _) _⟩
theorem pShape_un (op : Int) (hk : known op = false) (w : World) : Calls Tryd.prog 109 #[.int .i64 op] w fun e w' => e = .returned (shV op) ∧ Below w.heap.size w w' := by
  have hn : op < 1 ∨ 21 < op := by
    unfold known at hk
    simp only [Bool.and_eq_false_iff, decide_eq_false_iff_not] at hk
    omega
  have e : shV op = .tuple #[.agg #[.int .i64 0, .int .i64 0, .int .i64 0, .int .i64 0], .bool false] := by
    have a1 : hasAgent op = false := by simp only [hasAgent, Bool.or_eq_false_iff, decide_eq_false_iff_not]; omega
    have a2 : hasGroup op = false := by simp only [hasGroup, Bool.and_eq_false_iff, decide_eq_false_iff_not]; omega
    have a3 : usesX op = false := by simp only [usesX, Bool.and_eq_false_iff, decide_eq_false_iff_not]; omega
    have a4 : usesY op = false := by simp only [usesY, Bool.or_eq_false_iff, Bool.and_eq_false_iff, decide_eq_false_iff_not]; omega
    unfold shV shC shN shE shG shO
    have h3 : op ≠ 3 := by omega
    have h17 : op ≠ 17 := by omega
    rw [a1, a2, a3, a4, hk]
    simp [h3, h17]
  rw [e]
  have ne : ∀ k : Int, 1 ≤ k → k ≤ 21 → (op == k) = false := fun k h1 h2 => by simp; omega
  have n1 := ne 1 (by omega) (by omega)
  have n2 := ne 2 (by omega) (by omega)
  have n3 := ne 3 (by omega) (by omega)
  have n4 := ne 4 (by omega) (by omega)
  have n5 := ne 5 (by omega) (by omega)
  have n6 := ne 6 (by omega) (by omega)
  have n7 := ne 7 (by omega) (by omega)
  have n8 := ne 8 (by omega) (by omega)
  have n9 := ne 9 (by omega) (by omega)
  have n10 := ne 10 (by omega) (by omega)
  have n11 := ne 11 (by omega) (by omega)
  have n12 := ne 12 (by omega) (by omega)
  have n13 := ne 13 (by omega) (by omega)
  have n14 := ne 14 (by omega) (by omega)
  have n15 := ne 15 (by omega) (by omega)
  have n16 := ne 16 (by omega) (by omega)
  have n17 := ne 17 (by omega) (by omega)
  have n18 := ne 18 (by omega) (by omega)
  have n19 := ne 19 (by omega) (by omega)
  have n20 := ne 20 (by omega) (by omega)
  have n21 := ne 21 (by omega) (by omega)
  clear ne e hk hn
  go_enter Tryd.func109, Tryd.ntmps109
  go_wp2
  exact bodyPost_ret (v := .tuple #[.agg #[.int .i64 0, .int .i64 0, .int .i64 0, .int .i64 0], .bool false]) (by simp [results, Tryd.results109, go_sem]) rfl ⟨rfl, (Below.refl _ _).alloc (Nat.le_refl _) _⟩
theorem pShape_any (op : Int) (w : World) : Calls Tryd.prog 109 #[.int .i64 op] w fun e w' => e = .returned (shV op) ∧ Below w.heap.size w w' := by
  cases hk : known op with
  | true =>
    rcases known_cases op hk with rfl | rfl | rfl | rfl | rfl | rfl | rfl | rfl | rfl | rfl | rfl | rfl | rfl | rfl | rfl | rfl | rfl | rfl | rfl | rfl | rfl
    · exact pShape_1 w
    · exact pShape_2 w
    · exact pShape_3 w
    · exact pShape_4 w
    · exact pShape_5 w
    · exact pShape_6 w
    · exact pShape_7 w
    · exact pShape_8 w
    · exact pShape_9 w
    · exact pShape_10 w
    · exact pShape_11 w
    · exact pShape_12 w
    · exact pShape_13 w
    · exact pShape_14 w
    · exact pShape_15 w
    · exact pShape_16 w
    · exact pShape_17 w
    · exact pShape_18 w
    · exact pShape_19 w
    · exact pShape_20 w
    · exact pShape_21 w
  | false => exact pShape_un op hk w
end Go.Proofs.YtkhalapppkhopaaDoor
/- Layer 5: what a shape says of a node: operands, the rest, ranges. -/
namespace Go.Proofs.YtkhalapppkhopaaDoor
open Go.RowKit Go.Proofs.Ws
def isB (n l : Int) : Bool := decide (0 ≤ n) && decide (n < l)
theorem pIsB_any (n l : Int) (w : World) : Calls Tryd.prog 128 #[.int .i64 n, .int .i64 l] w fun e w' => e = .returned (.bool (isB n l)) ∧ w = w' := pIsBelow_any n l w
def shc (N E G O : Int) : Value := .agg #[.int .i64 N, .int .i64 E, .int .i64 G, .int .i64 O]
set_option maxHeartbeats 2000000 in
theorem pHasOps_any (N E G O idx : Int) (n : Nd) (w : World) : Calls Tryd.prog 126 #[shc N E G O, nv n, .int .i64 idx] w fun e w' =>
    e = .returned (.bool ((decide (O < 1) || isB n.x idx) && (decide (O < 2) || isB n.y idx))) ∧ Below w.heap.size w w' := by
  obtain ⟨op, i, e, g, x, y⟩ := n
  unfold shc nv
  have HB : Hid (∀ o o', Below w.heap.size w ((w.alloc o).alloc o')) := Lib.hid (fun o o' => ((Below.refl _ w).alloc (Nat.le_refl _) o).alloc (by simp) o')
  show Calls _ _ _ _ fun e w' => e = .returned (.bool ((decide (O < 1) || isB x idx) && (decide (O < 2) || isB y idx))) ∧ Below w.heap.size w w'
  obtain ⟨bx, hx⟩ : ∃ b, isB x idx = b := ⟨_, rfl⟩
  obtain ⟨by_, hy⟩ : ∃ b, isB y idx = b := ⟨_, rfl⟩
  obtain ⟨b1, h1⟩ : ∃ b, decide (O < 1) = b := ⟨_, rfl⟩
  obtain ⟨b2, h2⟩ : ∃ b, decide (O < 2) = b := ⟨_, rfl⟩
  rw [h1, h2, hx, hy]
  cases b1 <;> cases b2 <;> cases bx <;> cases by_
  all_goals
    go_enter Tryd.func126, Tryd.ntmps126
    go_wp2_with (first | (go_at_call 128; refine (pIsB_any _ _ _).mono ?_; rintro e w' ⟨rfl, rfl⟩))
    go_ret
    first
    | exact ⟨rfl, HB.out _ _⟩
    | exact ⟨ret_bool hx, HB.out _ _⟩
    | exact ⟨ret_bool hy, HB.out _ _⟩
end Go.Proofs.YtkhalapppkhopaaDoor
/- Layer 5 as plain mathematics: the canonical list as a function of the tree. -/
namespace Go.Proofs.Ws
open Go
inductive Tr where
  | leaf (n : Nd)
  | un (n : Nd) (a : Tr)
  | bin (n : Nd) (a b : Tr)
deriving DecidableEq
def bare (n : Nd) : Nd := { n with x := 0, y := 0 }
def treeF (f : List Nd) : Nat → Nat → Tr
  | 0, _ => .leaf nd0
  | fuel + 1, i =>
    let n := f.getD i nd0
    if usesY n.op = true then .bin (bare n) (treeF f fuel n.x.toNat) (treeF f fuel n.y.toNat)
    else if usesX n.op = true then .un (bare n) (treeF f fuel n.x.toNat) else .leaf (bare n)
/-- the tree of the node at a place -/
def treeAt (f : List Nd) (i : Nat) : Tr := treeF f (i + 1) i
def finT : Tr → List Nd → Nat × List Nd
  | .leaf n, o => putNd o n
  | .un n a, o => putNd (finT a o).2 { n with x := ((finT a o).1 : Int) }
  | .bin n a b, o => putNd (finT b (finT a o).2).2 { n with x := ((finT a o).1 : Int), y := ((finT b (finT a o).2).1 : Int) }
/-- the tree lies in the list at a number -/
def rep (o : List Nd) : Nat → Tr → Prop
  | k, .leaf n => o[k]? = some n
  | k, .un n a => ∃ x : Nat, o[k]? = some { n with x := (x : Int) } ∧ rep o x a
  | k, .bin n a b => ∃ x y : Nat, o[k]? = some { n with x := (x : Int), y := (y : Int) } ∧ rep o x a ∧ rep o y b
theorem putNd_old {o : List Nd} (h : o.Nodup) {k : Nat} {n : Nd} (hk : o[k]? = some n) : putNd o n = (k, o) := by
  obtain ⟨hl, he⟩ := List.getElem?_eq_some_iff.1 hk
  have hm : n ∈ o := by rw [← he]; exact List.getElem_mem hl
  unfold putNd
  rw [if_pos hm, ← he, List.Nodup.idxOf_getElem h]
theorem finT_old {o : List Nd} (h : o.Nodup) : ∀ (t : Tr) (k : Nat), rep o k t → finT t o = (k, o)
  | .leaf n, k, hr => putNd_old h hr
  | .un n a, k, ⟨x, hk, ha⟩ => by
    unfold finT
    rw [finT_old h a x ha]
    exact putNd_old h hk
  | .bin n a b, k, ⟨x, y, hk, ha, hb⟩ => by
    unfold finT
    rw [finT_old h a x ha, finT_old h b y hb]
    exact putNd_old h hk
theorem rep_mono {o o' : List Nd} (hp : o <+: o') : ∀ (t : Tr) (k : Nat), rep o k t → rep o' k t
  | .leaf n, k, h => by
    obtain ⟨r, rfl⟩ := hp
    have hl : k < o.length := (List.getElem?_eq_some_iff.1 h).1
    show (o ++ r)[k]? = some n
    rw [List.getElem?_append_left hl]; exact h
  | .un n a, k, ⟨x, hk, ha⟩ => by
    refine ⟨x, ?_, rep_mono hp a x ha⟩
    obtain ⟨r, rfl⟩ := hp
    have hl : k < o.length := (List.getElem?_eq_some_iff.1 hk).1
    rw [List.getElem?_append_left hl]; exact hk
  | .bin n a b, k, ⟨x, y, hk, ha, hb⟩ => by
    refine ⟨x, y, ?_, rep_mono hp a x ha, rep_mono hp b y hb⟩
    obtain ⟨r, rfl⟩ := hp
    have hl : k < o.length := (List.getElem?_eq_some_iff.1 hk).1
    rw [List.getElem?_append_left hl]; exact hk
theorem putNd_pre (o : List Nd) (n : Nd) : o <+: (putNd o n).2 := by
  unfold putNd
  split
  · exact List.prefix_refl _
  · exact List.prefix_append _ _
theorem putNd_at (o : List Nd) (n : Nd) : (putNd o n).2[(putNd o n).1]? = some n := by
  unfold putNd
  split
  · rename_i h
    show o[o.idxOf n]? = some n
    rw [List.getElem?_eq_getElem (List.idxOf_lt_length_of_mem h)]
    simp
  · show (o ++ [n])[o.length]? = some n
    simp
theorem putNd_nodup {o : List Nd} (h : o.Nodup) (n : Nd) : (putNd o n).2.Nodup := by
  unfold putNd
  split
  · exact h
  · rename_i hn
    show (o ++ [n]).Nodup
    rw [List.nodup_append]
    exact ⟨h, by simp, fun a ha b hb e => hn (by rw [List.mem_singleton.1 hb] at e; rw [← e]; exact ha)⟩
theorem putNd_len (o : List Nd) (n : Nd) : (putNd o n).2.length ≤ o.length + 1 ∧ (putNd o n).1 < (putNd o n).2.length := by
  refine ⟨?_, (List.getElem?_eq_some_iff.1 (putNd_at o n)).1⟩
  unfold putNd
  split
  · show o.length ≤ _; omega
  · show (o ++ [n]).length ≤ _; simp
theorem finT_pre : ∀ (t : Tr) (o : List Nd), o <+: (finT t o).2
  | .leaf n, o => putNd_pre o n
  | .un _n a, o => (finT_pre a o).trans (putNd_pre _ _)
  | .bin _n a b, o => ((finT_pre a o).trans (finT_pre b _)).trans (putNd_pre _ _)
theorem finT_rep : ∀ (t : Tr) (o : List Nd), rep (finT t o).2 (finT t o).1 t
  | .leaf n, o => putNd_at o n
  | .un _n a, o => ⟨_, putNd_at _ _, rep_mono (putNd_pre _ _) a _ (finT_rep a o)⟩
  | .bin _n a b, o => ⟨_, _, putNd_at _ _, rep_mono (putNd_pre _ _) a _ (rep_mono (finT_pre b _) a _ (finT_rep a o)), rep_mono (putNd_pre _ _) b _ (finT_rep b _)⟩
/-- what a tree is made of: the fields that an operator does not use are 0, and it has the operands that it uses -/
def trOk : Tr → Prop
  | .leaf n => usesX n.op = false ∧ usesY n.op = false ∧ bare n = n
  | .un n a => usesX n.op = true ∧ usesY n.op = false ∧ bare n = n ∧ trOk a
  | .bin n a b => usesX n.op = true ∧ usesY n.op = true ∧ bare n = n ∧ trOk a ∧ trOk b
/-- the nodes of a tree, without numbers -/
def trAll (P : Nd → Prop) : Tr → Prop
  | .leaf n => P n
  | .un n a => P n ∧ trAll P a
  | .bin n a b => P n ∧ trAll P a ∧ trAll P b
/-- the operands that are used are earlier nodes, the others are 0 -/
def opsOk (n : Nd) (k : Nat) : Prop :=
  (if usesX n.op = true then 0 ≤ n.x ∧ n.x < (k : Int) else n.x = 0) ∧ (if usesY n.op = true then 0 ≤ n.y ∧ n.y < (k : Int) else n.y = 0)
def opsL (f : List Nd) : Prop := ∀ i, i < f.length → opsOk (f.getD i nd0) i
theorem usesY_X {op : Int} (h : usesY op = true) : usesX op = true := by
  unfold usesY at h
  unfold usesX
  simp only [Bool.or_eq_true, Bool.and_eq_true, decide_eq_true_eq] at h ⊢
  omega
theorem getD_some {o : List Nd} {k : Nat} {n : Nd} (h : o[k]? = some n) : o.getD k nd0 = n := by
  rw [List.getD_eq_getElem?_getD, h]; rfl
theorem bare_x {n : Nd} (h : bare n = n) : n.x = 0 ∧ n.y = 0 := by rw [← h]; exact ⟨rfl, rfl⟩
theorem opsL_put {o : List Nd} (h : opsL o) {n : Nd} (hn : opsOk n o.length) : opsL (putNd o n).2 := by
  unfold putNd
  split
  · exact h
  · intro i hi
    have hi2 : i < o.length + 1 := by simpa using hi
    by_cases e : i = o.length
    · subst e
      show opsOk ((o ++ [n]).getD o.length nd0) o.length
      rw [getD_some (n := n) (by simp)]
      exact hn
    · have hl : i < o.length := by omega
      have : (o ++ [n]).getD i nd0 = o.getD i nd0 := by
        rw [List.getD_eq_getElem?_getD, List.getElem?_append_left hl, ← List.getD_eq_getElem?_getD]
      show opsOk ((o ++ [n]).getD i nd0) i
      rw [this]
      exact h i hl
theorem finT_lt (t : Tr) (o : List Nd) : (finT t o).1 < (finT t o).2.length := by
  cases t
  · exact (putNd_len _ _).2
  · exact (putNd_len _ _).2
  · exact (putNd_len _ _).2
theorem finT_ops : ∀ (t : Tr) {o : List Nd}, trOk t → opsL o → opsL (finT t o).2
  | .leaf n, o, ⟨h1, h2, h3⟩, h => by
    refine opsL_put h ⟨?_, ?_⟩
    · rw [if_neg (by simp [h1])]; exact (bare_x h3).1
    · rw [if_neg (by simp [h2])]; exact (bare_x h3).2
  | .un n a, o, ⟨h1, h2, h3, h4⟩, h => by
    have ha := finT_lt a o
    refine opsL_put (finT_ops a h4 h) ⟨?_, ?_⟩
    · show if usesX n.op = true then _ else _
      rw [if_pos h1]
      exact ⟨Int.natCast_nonneg _, by show ((finT a o).1 : Int) < _; omega⟩
    · show if usesY n.op = true then _ else _
      rw [if_neg (by simp [h2])]; exact (bare_x h3).2
  | .bin n a b, o, ⟨h1, h2, h3, h4, h5⟩, h => by
    have ha := finT_lt a o
    have hb := finT_lt b (finT a o).2
    have hp := (finT_pre b (finT a o).2).length_le
    refine opsL_put (finT_ops b h5 (finT_ops a h4 h)) ⟨?_, ?_⟩
    · show if usesX n.op = true then _ else _
      rw [if_pos h1]
      exact ⟨Int.natCast_nonneg _, by show ((finT a o).1 : Int) < _; omega⟩
    · show if usesY n.op = true then _ else _
      rw [if_pos h2]
      exact ⟨Int.natCast_nonneg _, by show ((finT b (finT a o).2).1 : Int) < _; omega⟩
theorem putNd_all {P : Nd → Prop} {o : List Nd} (h : ∀ n ∈ o, P (bare n)) {n : Nd} (hn : P (bare n)) : ∀ m ∈ (putNd o n).2, P (bare m) := by
  unfold putNd
  split
  · exact h
  · intro m hm
    rcases List.mem_append.1 hm with hm | hm
    · exact h m hm
    · rw [List.mem_singleton.1 hm]; exact hn
theorem finT_all {P : Nd → Prop} : ∀ (t : Tr) {o : List Nd}, trOk t → trAll P t → (∀ n ∈ o, P (bare n)) → ∀ n ∈ (finT t o).2, P (bare n)
  | .leaf n, o, ⟨_, _, h3⟩, hp, h => putNd_all h (by rw [h3]; exact hp)
  | .un n a, o, ⟨_, _, h3, h4⟩, ⟨hp, ha⟩, h => putNd_all (finT_all a h4 ha h) (by show P (bare n); rw [h3]; exact hp)
  | .bin n a b, o, ⟨_, _, h3, h4, h5⟩, ⟨hp, ha, hb⟩, h => putNd_all (finT_all b h5 hb (finT_all a h4 ha h)) (by show P (bare n); rw [h3]; exact hp)
theorem opsOk_x {n : Nd} {k : Nat} (h : opsOk n k) (hu : usesX n.op = true) : 0 ≤ n.x ∧ n.x.toNat < k := by
  have := h.1
  rw [if_pos hu] at this
  omega
theorem opsOk_y {n : Nd} {k : Nat} (h : opsOk n k) (hu : usesY n.op = true) : 0 ≤ n.y ∧ n.y.toNat < k := by
  have := h.2
  rw [if_pos hu] at this
  omega
theorem treeF_fuel {f : List Nd} (hf : opsL f) : ∀ (m i : Nat), i < m → i < f.length → treeF f m i = treeAt f i := by
  have key : ∀ (m m' i : Nat), i < m → i < m' → i < f.length → treeF f m i = treeF f m' i := by
    intro m
    induction m with
    | zero => intro m' i h; omega
    | succ m ih =>
      intro m' i h1 h2 hl
      cases m' with
      | zero => omega
      | succ m' =>
        have ho := hf i hl
        unfold treeF
        simp only
        split
        · rename_i hy
          have hx := opsOk_x ho (usesY_X hy)
          have hy2 := opsOk_y ho hy
          rw [ih m' _ (by omega) (by omega) (by omega), ih m' _ (by omega) (by omega) (by omega)]
        · split
          · rename_i _ hx
            have hx := opsOk_x ho hx
            rw [ih m' _ (by omega) (by omega) (by omega)]
          · rfl
  intro m i h hl
  exact key m (i + 1) i h (by omega) hl
theorem treeAt_eq {f : List Nd} (hf : opsL f) {i : Nat} (hi : i < f.length) :
    treeAt f i = (if usesY (f.getD i nd0).op = true then .bin (bare (f.getD i nd0)) (treeAt f (f.getD i nd0).x.toNat) (treeAt f (f.getD i nd0).y.toNat)
      else if usesX (f.getD i nd0).op = true then .un (bare (f.getD i nd0)) (treeAt f (f.getD i nd0).x.toNat) else .leaf (bare (f.getD i nd0))) := by
  have ho := hf i hi
  show treeF f (i + 1) i = _
  unfold treeF
  simp only
  split
  · rename_i hy
    have hx := opsOk_x ho (usesY_X hy)
    have hy2 := opsOk_y ho hy
    rw [treeF_fuel hf i _ hx.2 (by omega), treeF_fuel hf i _ hy2.2 (by omega)]
  · split
    · rename_i _ hx
      have hx := opsOk_x ho hx
      rw [treeF_fuel hf i _ hx.2 (by omega)]
    · rfl
theorem treeAt_ok {f : List Nd} (hf : opsL f) : ∀ (k i : Nat), i < k → i < f.length → trOk (treeAt f i) := by
  intro k
  induction k with
  | zero => intro i h; omega
  | succ k ih =>
    intro i h hi
    have ho := hf i hi
    rw [treeAt_eq hf hi]
    split
    · rename_i hy
      have hx := opsOk_x ho (usesY_X hy)
      have hy2 := opsOk_y ho hy
      exact ⟨usesY_X hy, hy, rfl, ih _ (by omega) (by omega), ih _ (by omega) (by omega)⟩
    · rename_i hy
      split
      · rename_i hx
        have hx2 := opsOk_x ho hx
        exact ⟨hx, Bool.eq_false_iff.2 hy, rfl, ih _ (by omega) (by omega)⟩
      · rename_i hx
        exact ⟨Bool.eq_false_iff.2 hx, Bool.eq_false_iff.2 hy, rfl⟩
theorem treeAt_all {P : Nd → Prop} {f : List Nd} (hf : opsL f) (hP : ∀ n ∈ f, P (bare n)) : ∀ (k i : Nat), i < k → i < f.length → trAll P (treeAt f i) := by
  intro k
  induction k with
  | zero => intro i h; omega
  | succ k ih =>
    intro i h hi
    have ho := hf i hi
    have hp : P (bare (f.getD i nd0)) := by
      have : f.getD i nd0 = f[i] := by simp [hi]
      rw [this]; exact hP _ (List.getElem_mem hi)
    rw [treeAt_eq hf hi]
    split
    · rename_i hy
      have hx := opsOk_x ho (usesY_X hy)
      have hy2 := opsOk_y ho hy
      exact ⟨hp, ih _ (by omega) (by omega), ih _ (by omega) (by omega)⟩
    · split
      · rename_i _ hx
        have hx2 := opsOk_x ho hx
        exact ⟨hp, ih _ (by omega) (by omega)⟩
      · exact hp
/-- what the walk knows: its list has no equal nodes, and each finished node's tree lies in it -/
structure WkOk (f : List Nd) (s : Wk) : Prop where
  len : s.done.length = f.length
  nodup : s.out.Nodup
  there : ∀ j k, s.done.getD j none = some k → j < f.length ∧ rep s.out k (treeAt f j)
theorem getD_set {l : List (Option Nat)} {i j : Nat} {v : Option Nat} (h : i < l.length) : (l.set i v).getD j none = if i = j then v else l.getD j none := by
  rw [List.getD_eq_getElem?_getD, List.getElem?_set, List.getD_eq_getElem?_getD]
  by_cases e : i = j
  · rw [if_pos e, if_pos e, if_pos h]; rfl
  · rw [if_neg e, if_neg e]
/-- the walk over the list is the walk over the tree -/
theorem finW_tree {f : List Nd} (hf : opsL f) : ∀ (fuel i : Nat) (s : Wk), i < fuel → i < f.length → WkOk f s →
    (finW f fuel i s).1 = (finT (treeAt f i) s.out).1 ∧ (finW f fuel i s).2.out = (finT (treeAt f i) s.out).2 ∧ WkOk f (finW f fuel i s).2 ∧
      (finW f fuel i s).2.done.getD i none = some (finW f fuel i s).1 ∧ (∀ j, i < j → (finW f fuel i s).2.done.getD j none = s.done.getD j none) := by
  intro fuel
  induction fuel with
  | zero => intro i s h; omega
  | succ fuel ih =>
    intro i s h hi hs
    unfold finW
    cases hd : s.done.getD i none with
    | some k =>
      have hr := (hs.there i k hd).2
      simp only
      rw [finT_old hs.nodup _ _ hr]
      exact ⟨rfl, rfl, hs, hd, fun _ _ => trivial⟩
    | none =>
      simp only
      have ho := hf i hi
      rw [treeAt_eq hf hi]
      have fin : ∀ (t : Tr) (r : Nat × Wk) (m : Nd), WkOk f r.2 → finT t s.out = putNd r.2.out m → treeAt f i = t → (∀ j, i ≤ j → r.2.done.getD j none = s.done.getD j none) →
          (putNd r.2.out m).1 = (finT t s.out).1 ∧ (putNd r.2.out m).2 = (finT t s.out).2 ∧ WkOk f ⟨(putNd r.2.out m).2, r.2.done.set i (some (putNd r.2.out m).1)⟩ ∧
          (r.2.done.set i (some (putNd r.2.out m).1)).getD i none = some (putNd r.2.out m).1 ∧ (∀ j, i < j → (r.2.done.set i (some (putNd r.2.out m).1)).getD j none = s.done.getD j none) := by
        intro t r m hw he ht hg
        have hl : i < r.2.done.length := by rw [hw.len]; exact hi
        refine ⟨by rw [he], by rw [he], ⟨by show (r.2.done.set i _).length = _; rw [List.length_set, hw.len], putNd_nodup hw.nodup m, fun j k hj => ?_⟩, by rw [getD_set hl, if_pos rfl], fun j hj => by rw [getD_set hl, if_neg (by omega)]; exact hg j (by omega)⟩
        rw [getD_set hl] at hj
        by_cases e : i = j
        · rw [if_pos e] at hj
          injection hj with hj
          subst e; subst hj
          refine ⟨hi, ?_⟩
          show rep (putNd r.2.out m).2 _ _
          rw [ht, ← he]
          exact finT_rep t s.out
        · rw [if_neg e] at hj
          obtain ⟨h1, h2⟩ := hw.there j k hj
          exact ⟨h1, rep_mono (putNd_pre _ _) _ _ h2⟩
      by_cases hy : usesY (f.getD i nd0).op = true
      · have hx := usesY_X hy
        have ox := opsOk_x ho hx
        have oy := opsOk_y ho hy
        rw [if_pos hx, if_pos hy, if_pos hy]
        obtain ⟨a1, a2, a3, a4, a5⟩ := ih (f.getD i nd0).x.toNat s (by omega) (by omega) hs
        obtain ⟨b1, b2, b3, b4, b5⟩ := ih (f.getD i nd0).y.toNat (finW f fuel (f.getD i nd0).x.toNat s).2 (by omega) (by omega) a3
        refine fin (.bin (bare (f.getD i nd0)) (treeAt f (f.getD i nd0).x.toNat) (treeAt f (f.getD i nd0).y.toNat)) (finW f fuel (f.getD i nd0).y.toNat (finW f fuel (f.getD i nd0).x.toNat s).2) _ b3 ?_ (by rw [treeAt_eq hf hi, if_pos hy]) (fun j hj => by rw [b5 j (by omega), a5 j (by omega)])
        rw [b2, b1, a2, a1]
        rfl
      · rw [if_neg hy, if_neg hy]
        have e2 : (f.getD i nd0).y = 0 := by have := ho.2; rw [if_neg hy] at this; exact this
        by_cases hx : usesX (f.getD i nd0).op = true
        · have ox := opsOk_x ho hx
          rw [if_pos hx, if_pos hx]
          obtain ⟨a1, a2, a3, a4, a5⟩ := ih (f.getD i nd0).x.toNat s (by omega) (by omega) hs
          refine fin (.un (bare (f.getD i nd0)) (treeAt f (f.getD i nd0).x.toNat)) (finW f fuel (f.getD i nd0).x.toNat s) _ a3 ?_ (by rw [treeAt_eq hf hi, if_neg hy, if_pos hx]) (fun j hj => by rw [a5 j (by omega)])
          rw [a2, a1]
          show putNd _ { bare (f.getD i nd0) with x := _ } = putNd _ { f.getD i nd0 with x := _, y := _ }
          congr 1
          show Nd.mk _ _ _ _ _ 0 = Nd.mk _ _ _ _ _ (((f.getD i nd0).y.toNat : Nat) : Int)
          rw [e2]; rfl
        · have e1 : (f.getD i nd0).x = 0 := by have := ho.1; rw [if_neg hx] at this; exact this
          rw [if_neg hx, if_neg hx]
          refine fin (.leaf (bare (f.getD i nd0))) ((f.getD i nd0).x.toNat, s) _ hs ?_ (by rw [treeAt_eq hf hi, if_neg hy, if_neg hx]) (fun j hj => rfl)
          show putNd _ (bare _) = putNd _ _
          congr 1
          show Nd.mk _ _ _ _ 0 0 = Nd.mk _ _ _ _ (((f.getD i nd0).x.toNat : Nat) : Int) (((f.getD i nd0).y.toNat : Nat) : Int)
          rw [e1, e2]; rfl
/-- the canonical list of a tree -/
def canT (t : Tr) : List Nd := (finT t []).2
theorem wk0 (f : List Nd) : WkOk f ⟨[], List.replicate f.length none⟩ := by
  refine ⟨by simp, List.nodup_nil, fun j k h => ?_⟩
  have h : (List.replicate f.length (none : Option Nat)).getD j none = some k := h
  rw [List.getD_eq_getElem?_getD, List.getElem?_replicate] at h
  split at h <;> cases h
theorem walk_tree {f : List Nd} (hf : opsL f) {fuel i : Nat} (h : i < fuel) (hi : i < f.length) : (finW f fuel i ⟨[], List.replicate f.length none⟩).2.out = canT (treeAt f i) :=
  (finW_tree hf fuel i _ h hi (wk0 f)).2.1
theorem canonF_tree {f : List Nd} (hf : opsL f) (hn : f ≠ []) : canonF f = canT (treeAt f (f.length - 1)) := by
  have : f.length ≠ 0 := by simpa using hn
  exact walk_tree hf (by omega) (by omega)
theorem take_getD {f : List Nd} {m j : Nat} (h : j < m) : (f.take m).getD j nd0 = f.getD j nd0 := by
  rw [List.getD_eq_getElem?_getD, List.getElem?_take, if_pos h, List.getD_eq_getElem?_getD]
theorem opsL_take {f : List Nd} (hf : opsL f) (m : Nat) : opsL (f.take m) := by
  intro i hi
  rw [List.length_take] at hi
  rw [take_getD (by omega)]
  exact hf i (by omega)
theorem canT_ops {t : Tr} (h : trOk t) : opsL (canT t) := finT_ops t h (fun i hi => absurd hi (by simp))
end Go.Proofs.Ws
