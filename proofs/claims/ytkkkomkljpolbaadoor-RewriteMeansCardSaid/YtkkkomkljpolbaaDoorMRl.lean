/- Layer 6: texts joined: Gt Gu Gv Gw Gx. -/
import Derived.Test.YtkkkomkljpolbaaDoorMJl
import Derived.Test.YtkkkomkljpolbaaDoorMJm
import Derived.Test.YtkkkomkljpolbaaDoorMQq
import Derived.Test.YtkkkomkljpolbaaDoorMRk
/- Layer 8: a list of lists of nodes that came in. -/
namespace Go.Proofs.YtkkkomkljpolbaaDoor.rwl
open Go.ChangeShapes Go.WideShapes Go.ChangeAt Go.RowKit Go.Proofs.Ws Go.Deep
set_option maxRecDepth 100000
section
variable {H : Type} {enc : TypeId × Value → H} {w : World} {base : Nat} {spare : Nat → Bool} {held : Bool}
end
end Go.Proofs.YtkkkomkljpolbaaDoor.rwl
/- Layer 8: the builders of the reference return rows of their own. -/
namespace Go.Proofs.YtkkkomkljpolbaaDoor
open Go.RowKit Go.Proofs.Ws Go.Maps
end Go.Proofs.YtkkkomkljpolbaaDoor
/- Layer 8: the mathematics of the reference's Rebuild and Subst. -/
namespace Go.Proofs.YtkkkomkljpolbaaDoor
open Go Go.Proofs.Ws
/-- a node and the results of its operands -/
def rebF (n : Nd) (a b : List Nd) : List Nd := if usesY n.op = true then binaryF (bare n) a b else if usesX n.op = true then unaryF (bare n) a else oneF (bare n)
/-- what the reference's Subst lays at a place -/
def subI (c : List Nd) (to l : List (List Nd)) (k : Nat) : List Nd :=
  if (c.getD k nd0).op = 3 ∧ (c.getD k nd0).i < (to.length : Int) then compF (to.getD (c.getD k nd0).i.toNat [])
  else rebF (c.getD k nd0) (if usesX (c.getD k nd0).op = true then l.getD (c.getD k nd0).x.toNat [] else []) (if usesY (c.getD k nd0).op = true then l.getD (c.getD k nd0).y.toNat [] else [])
def subLs (c : List Nd) (to : List (List Nd)) : Nat → List (List Nd)
  | 0 => []
  | k + 1 => subLs c to k ++ [subI c to (subLs c to k) k]
end Go.Proofs.YtkkkomkljpolbaaDoor
/- Layer 8: the reference's Rebuild and done. -/
namespace Go.Proofs.YtkkkomkljpolbaaDoor
open Go.RowKit Go.Proofs.Ws Go.Maps
set_option maxRecDepth 100000
end Go.Proofs.YtkkkomkljpolbaaDoor
/- Layer 8: the reference's Subst. -/
namespace Go.Proofs.YtkkkomkljpolbaaDoor
open Go.RowKit Go.Proofs.Ws Go.Maps
set_option maxRecDepth 100000
theorem LL.at_ {W : World} {b : Nat} {v : Value} {ls : List (List Nd)} (h : LL W b v ls) {n : Nat} (hn : ls.length = n) : ∃ A c, v = .slice A n c ∧ ∀ k, k < n → ∃ ad Aj cj, A = some ad ∧ W.cell? (ad.add k) = some (.slice Aj (ls.getD k []).length cj) ∧ Reads W W.heap.size 6 Aj (ls.getD k []).length (nds (ls.getD k [])) := by
  subst hn
  obtain ⟨A, c, e, h2⟩ := h.slice
  refine ⟨A, c, e, fun k hk => ?_⟩
  obtain ⟨ad, Aj, cj, h3, h4, h5⟩ := h2 k hk
  exact ⟨ad, Aj, cj, h3, h4, Reads.of_own h5⟩
/-- what the reference's Subst lays for a formula and formulas in order -/
structure SubR (f : List Nd) (ls : List (List Nd)) (q : List Nd) : Prop where
  ok : OkL q
  kn : knownL q
  fld : ∀ n ∈ q, fldOk n
  len : q.length ≤ 200
  short : ∀ k, k ≤ q.length → ∀ j, j < k → ((subLs q ls k).getD j []).length ≤ 200
  last : (subLs q ls q.length).getD (q.length - 1) [] = subFF f ls
  err : subEE f ls = if subFF f ls = [] then 8 else 0
end Go.Proofs.YtkkkomkljpolbaaDoor
