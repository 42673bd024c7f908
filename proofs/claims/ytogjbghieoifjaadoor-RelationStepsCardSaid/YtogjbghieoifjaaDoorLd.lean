/- Words for the law on paths. -/
import Derived.Test.YtogjbghieoifjaaDoorLc
import Derived.Test.YtogjbghieoifjaaDoorBs
namespace Go.Proofs.YtogjbghieoifjaaDoor
open Go.RowKit Go.Proofs.Ws
theorem reach_in {R : List Nat} {m : Nat} (h : ∀ x ∈ R, x < 2 ^ m) : ∀ (k x : Nat), x < 2 ^ m → itR R k x < 2 ^ m
  | 0, _, hx => hx
  | k + 1, _x, hx => reach_in h k _ (stepR_in h hx)
end Go.Proofs.YtogjbghieoifjaaDoor
