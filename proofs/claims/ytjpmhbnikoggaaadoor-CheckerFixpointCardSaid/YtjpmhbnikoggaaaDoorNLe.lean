/- Layer 17: the reference's boxes, paths and propositional nodes. -/
import Derived.Test.YtjpmhbnikoggaaaDoorNIg
import Derived.Test.YtjpmhbnikoggaaaDoorNKa
namespace Go.Proofs.YtjpmhbnikoggaaaDoor
open Go.RowKit Go.Proofs.Ws
set_option maxRecDepth 100000
theorem mapand_getD (G : List Nat) (x k : Nat) : (G.map (· &&& x)).getD k 0 = G.getD k 0 &&& x := by
  rw [List.getD_eq_getElem?_getD, List.getElem?_map, List.getD_eq_getElem?_getD]
  cases G[k]? with
  | none => simp
  | some v => rfl
theorem words_and {G : List Nat} (hw : Words G) (x : Nat) : Words (G.map (· &&& x)) := fun y hy => by
  obtain ⟨g, hg, rfl⟩ := List.mem_map.1 hy
  exact Nat.lt_of_le_of_lt Nat.and_le_left (hw g hg)
theorem anN_lt (a b : Nat) (ha : a < 18446744073709551616) : anN a b < 18446744073709551616 := Nat.lt_of_le_of_lt Nat.and_le_left ha
end Go.Proofs.YtjpmhbnikoggaaaDoor
