/- Layer 5 as plain mathematics: nodes, their form, the error of a list of nodes, the canonical list (no program in sight). -/
import Derived.Lib.Hide
namespace Go.Proofs.Ws
open Go
/-- a node: operator, number, event, group, operands -/
structure Nd where
  op : Int
  i : Int
  e : Int
  g : Int
  x : Int
  y : Int
deriving DecidableEq
def usesX (op : Int) : Bool := decide (4 ≤ op) && decide (op ≤ 21)
def usesY (op : Int) : Bool := (decide (5 ≤ op) && decide (op ≤ 8)) || decide (op = 13) || decide (op = 14) || decide (op = 16) || decide (op = 19) || decide (op = 21)
def hasAgent (op : Int) : Bool := decide (op = 9) || decide (op = 10) || decide (op = 14) || decide (op = 15)
def hasGroup (op : Int) : Bool := decide (11 ≤ op) && decide (op ≤ 13)
def known (op : Int) : Bool := decide (1 ≤ op) && decide (op ≤ 21)
/-- the limits of the fields: 0 for a field that is not used -/
def shN (op : Int) : Int := if op = 3 then 8 else if hasAgent op = true then 4 else if op = 17 then 8 else 0
def shE (op : Int) : Int := if op = 17 then 8 else 0
def shG (op : Int) : Int := if hasGroup op = true then 15 else 0
def shO (op : Int) : Int := if usesY op = true then 2 else if usesX op = true then 1 else 0
/-- the operands that are used are earlier nodes, the fields that are not used are 0 -/
def formOk (n : Nd) (at_ : Int) : Bool :=
  (if usesX n.op = true then decide (0 ≤ n.x) && decide (n.x < at_) else decide (n.x = 0)) &&
  (if usesY n.op = true then decide (0 ≤ n.y) && decide (n.y < at_) else decide (n.y = 0)) &&
  (decide (n.op = 3) || hasAgent n.op || decide (n.op = 17) || decide (n.i = 0)) && (decide (n.op = 17) || decide (n.e = 0)) && (hasGroup n.op || decide (n.g = 0))
def rangeOk (n : Nd) : Bool :=
  (shN n.op == 0 || (decide (0 ≤ n.i) && decide (n.i < shN n.op))) && (shE n.op == 0 || (decide (0 ≤ n.e) && decide (n.e < shE n.op))) && (shG n.op == 0 || (decide (1 ≤ n.g) && decide (n.g ≤ shG n.op)))
/-- the error of a node at a place -/
def nodeErr (n : Nd) (at_ : Int) : Int := if known n.op = false then 10 else if formOk n at_ = false then 3 else if rangeOk n = false then 2 else 0
/-- the first error from a place on -/
def errFrom : Nat → List Nd → Int
  | _, [] => 0
  | k, n :: ns => if nodeErr n (k : Int) ≠ 0 then nodeErr n (k : Int) else errFrom (k + 1) ns
def fErr (l : List Nd) : Int := if l.length = 0 then 3 else if 200 < l.length then 8 else errFrom 0 l
/-- the walk's state: the canonical list so far, and for each node its number in it -/
structure Wk where
  out : List Nd
  done : List (Option Nat)
def putNd (out : List Nd) (n : Nd) : Nat × List Nd := if n ∈ out then (out.idxOf n, out) else (out.length, out ++ [n])
def nd0 : Nd := ⟨0, 0, 0, 0, 0, 0⟩
def finW (f : List Nd) : Nat → Nat → Wk → Nat × Wk
  | 0, _, s => (0, s)
  | fuel + 1, i, s =>
    match s.done.getD i none with
    | some k => (k, s)
    | none =>
      let n := f.getD i nd0
      let r1 := if usesX n.op = true then finW f fuel n.x.toNat s else (n.x.toNat, s)
      let r2 := if usesY n.op = true then finW f fuel n.y.toNat r1.2 else (n.y.toNat, r1.2)
      let p := putNd r2.2.out { n with x := (r1.1 : Int), y := (r2.1 : Int) }
      (p.1, ⟨p.2, r2.2.done.set i (some p.1)⟩)
def canonF (f : List Nd) : List Nd := (finW f f.length (f.length - 1) ⟨[], List.replicate f.length none⟩).2.out
def compF (f : List Nd) : List Nd := if fErr f = 0 then canonF f else []
end Go.Proofs.Ws
