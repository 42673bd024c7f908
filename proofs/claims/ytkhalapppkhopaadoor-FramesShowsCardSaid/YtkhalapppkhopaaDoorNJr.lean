/- Layer 6: texts joined: Fr30 Fr31 Fr32 Fr33. -/
import Derived.Test.YtkhalapppkhopaaDoorNJi
import Derived.Test.YtkhalapppkhopaaDoorNJp
/- Layer 15: shows by the reference. -/
namespace Go.Proofs.YtkhalapppkhopaaDoor
open Go.RowKit Go.Proofs.Ws
set_option maxRecDepth 100000
end Go.Proofs.YtkhalapppkhopaaDoor
/- Layer 15: Witness by the reference. -/
namespace Go.Proofs.YtkhalapppkhopaaDoor
open Go.RowKit Go.Proofs.Ws
set_option maxRecDepth 100000
/-- all lists of worlds that are less than a number have been tried -/
def TriedN (n : Nat) (p : Int) (l : List Nat) (N : Nat) : Prop := ∀ y, DigL n (lenP p) y → numV n y < N → shB p l y = false
theorem TriedN.zero (n : Nat) (p : Int) (l : List Nat) : TriedN n p l 0 := fun y _ h => absurd h (by omega)
theorem TriedN.step {n : Nat} {p : Int} {l x : List Nat} {N : Nat} (h : TriedN n p l N) (hx : DigL n (lenP p) x) (e : numV n x = N) (hs : shB p l x = false) : TriedN n p l (N + 1) := fun y hy hl => by
  by_cases k : numV n y = N
  · rw [numV_inj y x (by rw [hy.1, hx.1]) hy.2 hx.2 (by omega)]; exact hs
  · exact h y hy (by omega)
theorem TriedN.hit {n : Nat} {p : Int} {l x : List Nat} {N : Nat} (h : TriedN n p l N) (hx : DigL n (lenP p) x) (e : numV n x = N) (hs : shB p l x = true) : WitP n p l x := ⟨hx, hs, fun y hy hys => by
  rcases Nat.lt_or_ge (numV n y) (numV n x) with k | k
  · rw [h y hy (by omega)] at hys; cases hys
  · exact k⟩
theorem TriedN.all {n : Nat} {p : Int} {l : List Nat} {N : Nat} (h : TriedN n p l N) (hN : n ^ lenP p ≤ N) : ∀ y, DigL n (lenP p) y → shB p l y = false := fun y hy => by
  have := numV_lt y hy.2
  rw [hy.1] at this
  exact h y hy (by omega)
end Go.Proofs.YtkhalapppkhopaaDoor
/- Layer 15: Defects by the reference. -/
namespace Go.Proofs.YtkhalapppkhopaaDoor
open Go.RowKit Go.Proofs.Ws
set_option maxRecDepth 100000
end Go.Proofs.YtkhalapppkhopaaDoor
/- Layer 15: the closure of a relation by the reference. -/
namespace Go.Proofs.YtkhalapppkhopaaDoor
open Go.RowKit Go.Proofs.Ws
set_option maxRecDepth 100000
end Go.Proofs.YtkhalapppkhopaaDoor
