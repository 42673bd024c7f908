/- Layer 5: nodes in cells; limits, shapes, the check of a node. -/
import Derived.Test.YtcbmncafmofcpaaAa
import Derived.Test.YtcbmncafmofcpaaKm
namespace Go.Proofs.Ytcbmncafmofcpaa
open Go.RowKit Go.Proofs.Ws
/-- a node as a value -/
def nv (n : Nd) : Value := .agg #[.int .i64 n.op, .int .i64 n.i, .int .i64 n.e, .int .i64 n.g, .int .i64 n.x, .int .i64 n.y]
def ndC (n : Nd) : List Value := [.int .i64 n.op, .int .i64 n.i, .int .i64 n.e, .int .i64 n.g, .int .i64 n.x, .int .i64 n.y]
def nds (l : List Nd) : List Value := l.flatMap ndC
theorem nds_length (l : List Nd) : (nds l).length = l.length * 6 := by
  induction l with
  | nil => rfl
  | cons n l ih =>
    unfold nds at ih ⊢
    rw [List.flatMap_cons, List.length_append, ih, List.length_cons]
    simp [ndC]
    omega
theorem nds_append (l m : List Nd) : nds (l ++ m) = nds l ++ nds m := by simp [nds]
theorem nds_at : ∀ (l : List Nd) (k j : Nat), k < l.length → j < 6 → (nds l)[k * 6 + j]? = (ndC (l.getD k nd0))[j]?
  | [], k, _, h, _ => absurd h (by simp)
  | n :: l, 0, j, _, hj => by
    unfold nds
    rw [List.flatMap_cons, List.getElem?_append_left (by simp [ndC]; omega), Nat.zero_mul, Nat.zero_add]
    rfl
  | n :: l, k + 1, j, h, hj => by
    have ih := nds_at l k j (by simpa using h) hj
    unfold nds at ih ⊢
    rw [List.flatMap_cons, List.getElem?_append_right (by simp [ndC]; omega)]
    have e : (k + 1) * 6 + j - (ndC n).length = k * 6 + j := by simp [ndC]; omega
    rw [e, ih]
    rfl
theorem Reads.nd_len {w : World} {B n : Nat} {A : Option Addr} {l : List Nd} (h : Reads w B 6 A n (nds l)) : l.length = n := by
  have := h.1; rw [nds_length] at this; omega
theorem Reads.nd_at {w : World} {B n : Nat} {A : Option Addr} {l : List Nd} (h : Reads w B 6 A n (nds l)) {k : Nat} (hk : k < n) :
    ∃ ad, A = some ad ∧ ad.block < B ∧ w.cell? (ad.add (k * 6)) = some (.int .i64 (l.getD k nd0).op) ∧ w.cell? (ad.add (k * 6 + 1)) = some (.int .i64 (l.getD k nd0).i) ∧ w.cell? (ad.add (k * 6 + 2)) = some (.int .i64 (l.getD k nd0).e) ∧
      w.cell? (ad.add (k * 6 + 3)) = some (.int .i64 (l.getD k nd0).g) ∧ w.cell? (ad.add (k * 6 + 4)) = some (.int .i64 (l.getD k nd0).x) ∧ w.cell? (ad.add (k * 6 + 5)) = some (.int .i64 (l.getD k nd0).y) := by
  have hl := h.nd_len
  obtain ⟨ad, hA, hb, hc⟩ := h.2 (by omega)
  have at_ : ∀ j, j < 6 → ∀ u, (ndC (l.getD k nd0))[j]? = some u → w.cell? (ad.add (k * 6 + j)) = some u := fun j hj u hu => hc _ u (by rw [nds_at l k j (by omega) hj]; exact hu)
  exact ⟨ad, hA, hb, at_ 0 (by omega) _ rfl, at_ 1 (by omega) _ rfl, at_ 2 (by omega) _ rfl, at_ 3 (by omega) _ rfl, at_ 4 (by omega) _ rfl, at_ 5 (by omega) _ rfl⟩
theorem pIsBelow_any (n l : Int) (w : World) : Calls Try.prog 109 #[.int .i64 n, .int .i64 l] w fun e w' => e = .returned (.bool (decide (0 ≤ n) && decide (n < l))) ∧ w = w' := by
  cases h1 : decide (0 ≤ n) with
  | false =>
    go_enter Try.func109, Try.ntmps109
    go_wp2
    go_ret
    exact ⟨rfl, rfl⟩
  | true =>
    obtain ⟨b, h2⟩ : ∃ b, decide (n < l) = b := ⟨_, rfl⟩
    rw [h2]
    cases b
    all_goals
      go_enter Try.func109, Try.ntmps109
      go_wp2
      go_ret
      exact ⟨rfl, rfl⟩
end Go.Proofs.Ytcbmncafmofcpaa
