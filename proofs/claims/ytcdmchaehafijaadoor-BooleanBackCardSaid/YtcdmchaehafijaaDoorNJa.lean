/- Layer 6: texts joined: Bm Bm2 Bm3 Bm4 Bm6 Aa Km Kp Kpa Ab Kpd. -/
import Derived.Lib.TrailingZeros
import Derived.Test.YtcdmchaehafijaaDoorProg
import Derived.WalkKit
import Derived.ProofKit
import Derived.BigQuiet
import Derived.Deep.QuietTactic
import Derived.Laws.BitsAll
import Derived.Laws.BitsAllLaws
import Derived.Lib.Hide
import Derived.IntWalk
import Derived.Laws.Bits128
import Derived.Below
import Derived.Laws.OwnMore
import Derived.Deep.AppendLies
import Derived.Deep.Draws
import Derived.OwnWalk
import Derived.LoopTactic
import Derived.Lib.Builder
namespace Go.Proofs.Ws
open Go

/-- The worlds of a set, ascending. -/
def mem (s : Nat) : List Nat := (List.range 64).filter (fun w => s.testBit w)

/-- the lowest world -/
def low (s : Nat) : Nat := Lib.ctz 64 s

end Go.Proofs.Ws
/- How many bits are set: the arithmetic of the word-parallel count, byte by byte (no program in sight). -/
namespace Go.Proofs.Ws

def cnt : Nat → Nat → Nat
  | 0, _ => 0
  | k + 1, s => s % 2 + cnt k (s / 2)

def M (c : Nat) : Nat → Nat
  | 0 => 0
  | n + 1 => c + 256 * M c n

def g1 (y : Nat) : Nat := (y / 2 &&& 85) + (y &&& 85)
def g2 (y : Nat) : Nat := (y / 4 &&& 51) + (y &&& 51)
def g3 (y : Nat) : Nat := (y / 16 + y) &&& 15
theorem t1 : ∀ y : Fin 256, ∀ c : Fin 2, (y.1 / 2 + 128 * c.1) &&& 85 = y.1 / 2 &&& 85 := by decide +kernel
theorem t2 : ∀ y : Fin 256, ∀ c : Fin 4, (y.1 / 4 + 64 * c.1) &&& 51 = y.1 / 4 &&& 51 := by decide +kernel
theorem b1 : ∀ y : Fin 256, g1 y.1 < 256 := by decide +kernel
theorem b2 : ∀ y : Fin 256, g2 (g1 y.1) % 16 ≤ 4 ∧ g2 (g1 y.1) / 16 ≤ 4 ∧ g2 (g1 y.1) < 256 := by decide +kernel
theorem b3 : ∀ y : Fin 256, g3 (g2 (g1 y.1)) = cnt 8 y.1 ∧ cnt 8 y.1 ≤ 8 := by decide +kernel

theorem fin_len (x y : Nat) (hx : x < 4294967296) (hy : y < 268435456) : (x + 4294967296 * y) / 4294967296 = y ∧ x + 4294967296 * y < 18446744073709551616 ∧ x + 4294967296 * y + y < 9223372036854775808 ∧ (x + 4294967296 * y + y) % 128 = (x + y) % 128 := by
  refine ⟨?_, ?_, ?_, ?_⟩ <;> omega
theorem fin_mod (d0 d4 u v : Nat) (h : d0 + d4 ≤ 64) : (d0 + 256 * u + (d4 + 256 * v)) % 128 = d0 + d4 := by omega
theorem two_step (c0 c1 r : Nat) (h0 : c0 ≤ 16) (h1 : c1 ≤ 16) : (c0 + 256 * (c1 + 256 * r)) / 65536 = r := by omega
theorem one_step (c0 r : Nat) (h0 : c0 ≤ 8) : (c0 + 256 * r) / 256 = r := by omega

/-- the last three steps over eight small bytes -/
theorem tail (c0 c1 c2 c3 c4 c5 c6 c7 a3 : Nat) (l0 : c0 ≤ 8) (l1 : c1 ≤ 8) (l2 : c2 ≤ 8) (l3 : c3 ≤ 8) (l4 : c4 ≤ 8) (l5 : c5 ≤ 8) (l6 : c6 ≤ 8) (l7 : c7 ≤ 8)
    (e : a3 = c0 + 256 * (c1 + 256 * (c2 + 256 * (c3 + 256 * (c4 + 256 * (c5 + 256 * (c6 + 256 * c7))))))) :
    ∃ a4 a5 a6, a4 = a3 + a3 / 256 ∧ a5 = a4 + a4 / 65536 ∧ a6 = a5 + a5 / 4294967296 ∧ a3 < 18446744073709551616 ∧ a4 < 18446744073709551616 ∧ a5 < 18446744073709551616 ∧ a6 < 9223372036854775808 ∧ a6 % 128 = c0 + (c1 + (c2 + (c3 + (c4 + (c5 + (c6 + c7)))))) := by
  have q3 : a3 / 256 = c1 + 256 * (c2 + 256 * (c3 + 256 * (c4 + 256 * (c5 + 256 * (c6 + 256 * c7))))) := by rw [e]; exact one_step _ _ l0
  have p4 : a3 + a3 / 256 = (c0 + c1) + 256 * ((c1 + c2) + 256 * ((c2 + c3) + 256 * ((c3 + c4) + 256 * ((c4 + c5) + 256 * ((c5 + c6) + 256 * ((c6 + c7) + 256 * c7)))))) := by rw [q3, e]; clear q3 e; omega
  have h3 : a3 < 18446744073709551616 := by rw [e]; clear e q3 p4; omega
  have h4 : a3 + a3 / 256 < 18446744073709551616 := by rw [p4]; clear e q3 p4 h3; omega
  clear e q3
  have q4 : (a3 + a3 / 256) / 65536 = (c2 + c3) + 256 * ((c3 + c4) + 256 * ((c4 + c5) + 256 * ((c5 + c6) + 256 * ((c6 + c7) + 256 * c7)))) := by rw [p4]; exact two_step _ _ _ (by omega) (by omega)
  have p5 : (a3 + a3 / 256) + (a3 + a3 / 256) / 65536 = (c0 + c1 + c2 + c3 + 256 * (c1 + c2 + c3 + c4 + 256 * (c2 + c3 + c4 + c5 + 256 * (c3 + c4 + c5 + c6)))) + 4294967296 * (c4 + c5 + c6 + c7 + 256 * (c5 + c6 + c7 + 256 * (c6 + c7 + 256 * c7))) := by rw [q4, p4]; clear q4 p4 h3 h4; omega
  obtain ⟨f1, f2, f3, f4⟩ := fin_len (c0 + c1 + c2 + c3 + 256 * (c1 + c2 + c3 + c4 + 256 * (c2 + c3 + c4 + c5 + 256 * (c3 + c4 + c5 + c6)))) (c4 + c5 + c6 + c7 + 256 * (c5 + c6 + c7 + 256 * (c6 + c7 + 256 * c7))) (by clear p4 p5 q4 h3 h4; omega) (by clear p4 p5 q4 h3 h4; omega)
  rw [fin_mod _ _ _ _ (by clear p4 p5 q4 h3 h4 f1 f2 f3 f4; omega)] at f4
  rw [← p5] at f1 f2
  refine ⟨_, _, _, rfl, rfl, rfl, h3, h4, f2, ?_, ?_⟩
  · rw [f1, p5]; exact f3
  · rw [f1, p5, f4]; clear p4 p5 q4 h3 h4 f1 f2 f3 f4; omega

end Go.Proofs.Ws
/- The subsets of a set by their numbers; the next set of the same size: the arithmetic (no program in sight). -/
namespace Go.Proofs.Ws

end Go.Proofs.Ws
/- The next set of the same size, by arithmetic, and by the lowest world that can move up (no program in sight). -/
namespace Go.Proofs.Ws

end Go.Proofs.Ws
/- The subsets ascend, lie in the set, and end with it (no program in sight). -/
namespace Go.Proofs.Ws

/-- a list of worlds that ascends from b on -/
def Asc : Nat → List Nat → Prop
  | _, [] => True
  | b, w :: l => b ≤ w ∧ Asc (w + 1) l

theorem Asc.mono {b c : Nat} : ∀ {l : List Nat}, Asc c l → b ≤ c → Asc b l
  | [], _, _ => trivial
  | _ :: _, h, hb => ⟨Nat.le_trans hb h.1, h.2⟩

theorem mem_iff (s : Nat) (x : Nat) : x ∈ mem s ↔ x < 64 ∧ s.testBit x = true := by
  unfold mem
  rw [List.mem_filter, List.mem_range]

end Go.Proofs.Ws
/- Words and memory: the set of one world and of all, what a slice reads as, the table of trailing zeros, TrailingZeros64. -/
namespace Go.Proofs.YtcdmchaehafijaaDoor
open Go.RowKit Go.Proofs.Ws
theorem ret_bool {a b : Bool} (h : a = b) : Ending.returned (.bool a) = .returned (.bool b) := by rw [h]
theorem ret_i64 {a b : Int} (h : a = b) : Ending.returned (.int .i64 a) = .returned (.int .i64 b) := by rw [h]
/-- the set of one world -/
def p2 (k : Nat) : Nat := 2 ^ k
theorem block_of_add (a : Addr) (n : Nat) : (a.add n).block = a.block := by unfold Addr.add; split <;> rfl
theorem add_of_add (a : Addr) (i j : Nat) : (a.add i).add j = a.add (i + j) := by
  unfold Addr.add
  by_cases hi : i = 0 <;> by_cases hj : j = 0 <;> simp [hi, hj, Nat.add_assoc]
def Reads (w : World) (B size : Nat) (A : Option Addr) (n : Nat) (xs : List Value) : Prop :=
  xs.length = n * size ∧ (0 < n → ∃ ad, A = some ad ∧ ad.block < B ∧ ∀ j u, xs[j]? = some u → w.cell? (ad.add j) = some u)
section
variable {w w' : World} {B B' size n : Nat} {A : Option Addr} {xs : List Value}
theorem Reads.none_ : Reads w B size A 0 [] := ⟨by simp, fun h => absurd h (by omega)⟩
theorem Reads.at_ {k : Nat} (h : Reads w B 1 A n xs) (hk : k < n) : ∃ ad u, A = some ad ∧ ad.block < B ∧ xs[k]? = some u ∧ w.cell? (ad.add k) = some u := by
  obtain ⟨ad, e, hb, hc⟩ := h.2 (by omega)
  have hl : k < xs.length := by have := h.1; omega
  exact ⟨ad, xs[k], e, hb, List.getElem?_eq_getElem hl, hc k _ (List.getElem?_eq_getElem hl)⟩
theorem Reads.keep (h : Reads w B size A n xs) (hk : ∀ p : Addr, p.block < B → w'.cell? p = w.cell? p) : Reads w' B size A n xs :=
  ⟨h.1, fun hn => by
    obtain ⟨ad, e, hb, hc⟩ := h.2 hn
    exact ⟨ad, e, hb, fun j u hu => (hk _ (by rw [block_of_add]; exact hb)).trans (hc j u hu)⟩⟩
theorem Reads.more (h : Reads w B size A n xs) (hB : B ≤ B') : Reads w B' size A n xs :=
  ⟨h.1, fun hn => by
    obtain ⟨ad, e, hb, hc⟩ := h.2 hn
    exact ⟨ad, e, by omega, hc⟩⟩
theorem Reads.below (h : Reads w B size A n xs) (hb : Below B w w') : Reads w' B size A n xs := h.keep fun _ hp => hb.cell hp
theorem Reads.drew (h : Reads w B size A n xs) : Reads w.drew B size A n xs := h
theorem Reads.drewN (h : Reads w B size A n xs) (k : Nat) : Reads (w.drewN k) B size A n xs := h
theorem Reads.alloc (h : Reads w B size A n xs) (hB : B ≤ w.heap.size) (o : Obj) : Reads (w.alloc o) B size A n xs := h.keep fun p hp => World.cell?_alloc_lt w o p (by omega)
theorem Reads.setCell (h : Reads w B size A n xs) {p : Addr} (hB : B ≤ p.block) (u : Value) : Reads (w.setCell p u) B size A n xs :=
  h.keep fun q hq => World.cell?_setCell_other w p q u (fun e => by subst e; omega)
theorem Reads.grown (h : Reads w B size A n xs) {row : Option Nat} (hg : w.grownBy w' row) (hB : B ≤ w.heap.size) (hr : ∀ g, row = some g → B ≤ g) : Reads w' B size A n xs :=
  h.keep fun p hp => World.cell?_of_block (hg.block p.block (by omega) (fun e => by have := hr _ e.symm; omega))
theorem Reads.of_own {base : Nat} {e : TypeId} {c : Nat} (h : w.ownsRow base e size (.slice A n c) n xs) : Reads w w.heap.size size A n xs := by
  refine ⟨h.1, fun hn => ?_⟩
  obtain ⟨g, cap, hv, _, hlt⟩ := h.form hn
  have hA : A = some ⟨g, 0, none⟩ := by injection hv
  subst hA
  exact ⟨_, rfl, hlt, h.cells (g := g) rfl⟩
end
/-- the table of trailing zeros lies in its variable (block 0) -/
def iv (l : List Nat) : List Value := l.map (fun k : Nat => Value.int .i64 (k : Int))
theorem iv_append (l m : List Nat) : iv (l ++ m) = iv l ++ iv m := by simp [iv]
theorem below_drewN {B : Nat} {a w : World} (h : Below B a w) (n : Nat) : Below B a (w.drewN n) := h.trans ⟨rfl, rfl, rfl, Nat.le_refl _, fun _ _ => rfl⟩
end Go.Proofs.YtcdmchaehafijaaDoor
/- Layer 5 as plain mathematics: nodes, their form, the error of a list of nodes, the canonical list (no program in sight). -/
namespace Go.Proofs.Ws
open Go
/-- a node: operator, number, event, group, operands -/
structure Nd where
  op : Int
  i : Int
  e : Int
  g : Int
  x : Int
  y : Int
deriving DecidableEq
def usesX (op : Int) : Bool := decide (4 ≤ op) && decide (op ≤ 21)
def usesY (op : Int) : Bool := (decide (5 ≤ op) && decide (op ≤ 8)) || decide (op = 13) || decide (op = 14) || decide (op = 16) || decide (op = 19) || decide (op = 21)
def hasAgent (op : Int) : Bool := decide (op = 9) || decide (op = 10) || decide (op = 14) || decide (op = 15)
def hasGroup (op : Int) : Bool := decide (11 ≤ op) && decide (op ≤ 13)
def known (op : Int) : Bool := decide (1 ≤ op) && decide (op ≤ 21)
/-- the limits of the fields: 0 for a field that is not used -/
def shN (op : Int) : Int := if op = 3 then 8 else if hasAgent op = true then 4 else if op = 17 then 8 else 0
def shE (op : Int) : Int := if op = 17 then 8 else 0
def shG (op : Int) : Int := if hasGroup op = true then 15 else 0
def shO (op : Int) : Int := if usesY op = true then 2 else if usesX op = true then 1 else 0
/-- the operands that are used are earlier nodes, the fields that are not used are 0 -/
def formOk (n : Nd) (at_ : Int) : Bool :=
  (if usesX n.op = true then decide (0 ≤ n.x) && decide (n.x < at_) else decide (n.x = 0)) &&
  (if usesY n.op = true then decide (0 ≤ n.y) && decide (n.y < at_) else decide (n.y = 0)) &&
  (decide (n.op = 3) || hasAgent n.op || decide (n.op = 17) || decide (n.i = 0)) && (decide (n.op = 17) || decide (n.e = 0)) && (hasGroup n.op || decide (n.g = 0))
def rangeOk (n : Nd) : Bool :=
  (shN n.op == 0 || (decide (0 ≤ n.i) && decide (n.i < shN n.op))) && (shE n.op == 0 || (decide (0 ≤ n.e) && decide (n.e < shE n.op))) && (shG n.op == 0 || (decide (1 ≤ n.g) && decide (n.g ≤ shG n.op)))
/-- the error of a node at a place -/
def nodeErr (n : Nd) (at_ : Int) : Int := if known n.op = false then 10 else if formOk n at_ = false then 3 else if rangeOk n = false then 2 else 0
/-- the first error from a place on -/
def errFrom : Nat → List Nd → Int
  | _, [] => 0
  | k, n :: ns => if nodeErr n (k : Int) ≠ 0 then nodeErr n (k : Int) else errFrom (k + 1) ns
def fErr (l : List Nd) : Int := if l.length = 0 then 3 else if 200 < l.length then 8 else errFrom 0 l
/-- the walk's state: the canonical list so far, and for each node its number in it -/
structure Wk where
  out : List Nd
  done : List (Option Nat)
def putNd (out : List Nd) (n : Nd) : Nat × List Nd := if n ∈ out then (out.idxOf n, out) else (out.length, out ++ [n])
def nd0 : Nd := ⟨0, 0, 0, 0, 0, 0⟩
def finW (f : List Nd) : Nat → Nat → Wk → Nat × Wk
  | 0, _, s => (0, s)
  | fuel + 1, i, s =>
    match s.done.getD i none with
    | some k => (k, s)
    | none =>
      let n := f.getD i nd0
      let r1 := if usesX n.op = true then finW f fuel n.x.toNat s else (n.x.toNat, s)
      let r2 := if usesY n.op = true then finW f fuel n.y.toNat r1.2 else (n.y.toNat, r1.2)
      let p := putNd r2.2.out { n with x := (r1.1 : Int), y := (r2.1 : Int) }
      (p.1, ⟨p.2, r2.2.done.set i (some p.1)⟩)
def canonF (f : List Nd) : List Nd := (finW f f.length (f.length - 1) ⟨[], List.replicate f.length none⟩).2.out
def compF (f : List Nd) : List Nd := if fErr f = 0 then canonF f else []
end Go.Proofs.Ws
/- Layer 5 as plain mathematics: the canonical list as a function of the tree. -/
namespace Go.Proofs.Ws
open Go
inductive Tr where
  | leaf (n : Nd)
  | un (n : Nd) (a : Tr)
  | bin (n : Nd) (a b : Tr)
deriving DecidableEq
def bare (n : Nd) : Nd := { n with x := 0, y := 0 }
def treeF (f : List Nd) : Nat → Nat → Tr
  | 0, _ => .leaf nd0
  | fuel + 1, i =>
    let n := f.getD i nd0
    if usesY n.op = true then .bin (bare n) (treeF f fuel n.x.toNat) (treeF f fuel n.y.toNat)
    else if usesX n.op = true then .un (bare n) (treeF f fuel n.x.toNat) else .leaf (bare n)
/-- the tree of the node at a place -/
def treeAt (f : List Nd) (i : Nat) : Tr := treeF f (i + 1) i
def finT : Tr → List Nd → Nat × List Nd
  | .leaf n, o => putNd o n
  | .un n a, o => putNd (finT a o).2 { n with x := ((finT a o).1 : Int) }
  | .bin n a b, o => putNd (finT b (finT a o).2).2 { n with x := ((finT a o).1 : Int), y := ((finT b (finT a o).2).1 : Int) }
/-- the tree lies in the list at a number -/
def rep (o : List Nd) : Nat → Tr → Prop
  | k, .leaf n => o[k]? = some n
  | k, .un n a => ∃ x : Nat, o[k]? = some { n with x := (x : Int) } ∧ rep o x a
  | k, .bin n a b => ∃ x y : Nat, o[k]? = some { n with x := (x : Int), y := (y : Int) } ∧ rep o x a ∧ rep o y b
theorem putNd_old {o : List Nd} (h : o.Nodup) {k : Nat} {n : Nd} (hk : o[k]? = some n) : putNd o n = (k, o) := by
  obtain ⟨hl, he⟩ := List.getElem?_eq_some_iff.1 hk
  have hm : n ∈ o := by rw [← he]; exact List.getElem_mem hl
  unfold putNd
  rw [if_pos hm, ← he, List.Nodup.idxOf_getElem h]
theorem finT_old {o : List Nd} (h : o.Nodup) : ∀ (t : Tr) (k : Nat), rep o k t → finT t o = (k, o)
  | .leaf n, k, hr => putNd_old h hr
  | .un n a, k, ⟨x, hk, ha⟩ => by
    unfold finT
    rw [finT_old h a x ha]
    exact putNd_old h hk
  | .bin n a b, k, ⟨x, y, hk, ha, hb⟩ => by
    unfold finT
    rw [finT_old h a x ha, finT_old h b y hb]
    exact putNd_old h hk
theorem rep_mono {o o' : List Nd} (hp : o <+: o') : ∀ (t : Tr) (k : Nat), rep o k t → rep o' k t
  | .leaf n, k, h => by
    obtain ⟨r, rfl⟩ := hp
    have hl : k < o.length := (List.getElem?_eq_some_iff.1 h).1
    show (o ++ r)[k]? = some n
    rw [List.getElem?_append_left hl]; exact h
  | .un n a, k, ⟨x, hk, ha⟩ => by
    refine ⟨x, ?_, rep_mono hp a x ha⟩
    obtain ⟨r, rfl⟩ := hp
    have hl : k < o.length := (List.getElem?_eq_some_iff.1 hk).1
    rw [List.getElem?_append_left hl]; exact hk
  | .bin n a b, k, ⟨x, y, hk, ha, hb⟩ => by
    refine ⟨x, y, ?_, rep_mono hp a x ha, rep_mono hp b y hb⟩
    obtain ⟨r, rfl⟩ := hp
    have hl : k < o.length := (List.getElem?_eq_some_iff.1 hk).1
    rw [List.getElem?_append_left hl]; exact hk
theorem putNd_pre (o : List Nd) (n : Nd) : o <+: (putNd o n).2 := by
  unfold putNd
  split
  · exact List.prefix_refl _
  · exact List.prefix_append _ _
theorem putNd_at (o : List Nd) (n : Nd) : (putNd o n).2[(putNd o n).1]? = some n := by
  unfold putNd
  split
  · rename_i h
    show o[o.idxOf n]? = some n
    rw [List.getElem?_eq_getElem (List.idxOf_lt_length_of_mem h)]
    simp
  · show (o ++ [n])[o.length]? = some n
    simp
theorem putNd_nodup {o : List Nd} (h : o.Nodup) (n : Nd) : (putNd o n).2.Nodup := by
  unfold putNd
  split
  · exact h
  · rename_i hn
    show (o ++ [n]).Nodup
    rw [List.nodup_append]
    exact ⟨h, by simp, fun a ha b hb e => hn (by rw [List.mem_singleton.1 hb] at e; rw [← e]; exact ha)⟩
theorem putNd_len (o : List Nd) (n : Nd) : (putNd o n).2.length ≤ o.length + 1 ∧ (putNd o n).1 < (putNd o n).2.length := by
  refine ⟨?_, (List.getElem?_eq_some_iff.1 (putNd_at o n)).1⟩
  unfold putNd
  split
  · show o.length ≤ _; omega
  · show (o ++ [n]).length ≤ _; simp
theorem finT_pre : ∀ (t : Tr) (o : List Nd), o <+: (finT t o).2
  | .leaf n, o => putNd_pre o n
  | .un _n a, o => (finT_pre a o).trans (putNd_pre _ _)
  | .bin _n a b, o => ((finT_pre a o).trans (finT_pre b _)).trans (putNd_pre _ _)
theorem finT_nodup : ∀ (t : Tr) {o : List Nd}, o.Nodup → (finT t o).2.Nodup
  | .leaf n, _, h => putNd_nodup h n
  | .un _ a, _, h => putNd_nodup (finT_nodup a h) _
  | .bin _ a b, _, h => putNd_nodup (finT_nodup b (finT_nodup a h)) _
theorem finT_rep : ∀ (t : Tr) (o : List Nd), rep (finT t o).2 (finT t o).1 t
  | .leaf n, o => putNd_at o n
  | .un _n a, o => ⟨_, putNd_at _ _, rep_mono (putNd_pre _ _) a _ (finT_rep a o)⟩
  | .bin _n a b, o => ⟨_, _, putNd_at _ _, rep_mono (putNd_pre _ _) a _ (rep_mono (finT_pre b _) a _ (finT_rep a o)), rep_mono (putNd_pre _ _) b _ (finT_rep b _)⟩
/-- what a tree is made of: the fields that an operator does not use are 0, and it has the operands that it uses -/
def trOk : Tr → Prop
  | .leaf n => usesX n.op = false ∧ usesY n.op = false ∧ bare n = n
  | .un n a => usesX n.op = true ∧ usesY n.op = false ∧ bare n = n ∧ trOk a
  | .bin n a b => usesX n.op = true ∧ usesY n.op = true ∧ bare n = n ∧ trOk a ∧ trOk b
/-- the nodes of a tree, without numbers -/
def trAll (P : Nd → Prop) : Tr → Prop
  | .leaf n => P n
  | .un n a => P n ∧ trAll P a
  | .bin n a b => P n ∧ trAll P a ∧ trAll P b
/-- the operands that are used are earlier nodes, the others are 0 -/
def opsOk (n : Nd) (k : Nat) : Prop :=
  (if usesX n.op = true then 0 ≤ n.x ∧ n.x < (k : Int) else n.x = 0) ∧ (if usesY n.op = true then 0 ≤ n.y ∧ n.y < (k : Int) else n.y = 0)
def opsL (f : List Nd) : Prop := ∀ i, i < f.length → opsOk (f.getD i nd0) i
theorem usesY_X {op : Int} (h : usesY op = true) : usesX op = true := by
  unfold usesY at h
  unfold usesX
  simp only [Bool.or_eq_true, Bool.and_eq_true, decide_eq_true_eq] at h ⊢
  omega
theorem getD_some {o : List Nd} {k : Nat} {n : Nd} (h : o[k]? = some n) : o.getD k nd0 = n := by
  rw [List.getD_eq_getElem?_getD, h]; rfl
theorem bare_x {n : Nd} (h : bare n = n) : n.x = 0 ∧ n.y = 0 := by rw [← h]; exact ⟨rfl, rfl⟩
theorem opsL_put {o : List Nd} (h : opsL o) {n : Nd} (hn : opsOk n o.length) : opsL (putNd o n).2 := by
  unfold putNd
  split
  · exact h
  · intro i hi
    have hi2 : i < o.length + 1 := by simpa using hi
    by_cases e : i = o.length
    · subst e
      show opsOk ((o ++ [n]).getD o.length nd0) o.length
      rw [getD_some (n := n) (by simp)]
      exact hn
    · have hl : i < o.length := by omega
      have : (o ++ [n]).getD i nd0 = o.getD i nd0 := by
        rw [List.getD_eq_getElem?_getD, List.getElem?_append_left hl, ← List.getD_eq_getElem?_getD]
      show opsOk ((o ++ [n]).getD i nd0) i
      rw [this]
      exact h i hl
theorem finT_lt (t : Tr) (o : List Nd) : (finT t o).1 < (finT t o).2.length := by
  cases t
  · exact (putNd_len _ _).2
  · exact (putNd_len _ _).2
  · exact (putNd_len _ _).2
theorem finT_ops : ∀ (t : Tr) {o : List Nd}, trOk t → opsL o → opsL (finT t o).2
  | .leaf n, o, ⟨h1, h2, h3⟩, h => by
    refine opsL_put h ⟨?_, ?_⟩
    · rw [if_neg (by simp [h1])]; exact (bare_x h3).1
    · rw [if_neg (by simp [h2])]; exact (bare_x h3).2
  | .un n a, o, ⟨h1, h2, h3, h4⟩, h => by
    have ha := finT_lt a o
    refine opsL_put (finT_ops a h4 h) ⟨?_, ?_⟩
    · show if usesX n.op = true then _ else _
      rw [if_pos h1]
      exact ⟨Int.natCast_nonneg _, by show ((finT a o).1 : Int) < _; omega⟩
    · show if usesY n.op = true then _ else _
      rw [if_neg (by simp [h2])]; exact (bare_x h3).2
  | .bin n a b, o, ⟨h1, h2, h3, h4, h5⟩, h => by
    have ha := finT_lt a o
    have hb := finT_lt b (finT a o).2
    have hp := (finT_pre b (finT a o).2).length_le
    refine opsL_put (finT_ops b h5 (finT_ops a h4 h)) ⟨?_, ?_⟩
    · show if usesX n.op = true then _ else _
      rw [if_pos h1]
      exact ⟨Int.natCast_nonneg _, by show ((finT a o).1 : Int) < _; omega⟩
    · show if usesY n.op = true then _ else _
      rw [if_pos h2]
      exact ⟨Int.natCast_nonneg _, by show ((finT b (finT a o).2).1 : Int) < _; omega⟩
theorem putNd_all {P : Nd → Prop} {o : List Nd} (h : ∀ n ∈ o, P (bare n)) {n : Nd} (hn : P (bare n)) : ∀ m ∈ (putNd o n).2, P (bare m) := by
  unfold putNd
  split
  · exact h
  · intro m hm
    rcases List.mem_append.1 hm with hm | hm
    · exact h m hm
    · rw [List.mem_singleton.1 hm]; exact hn
theorem finT_all {P : Nd → Prop} : ∀ (t : Tr) {o : List Nd}, trOk t → trAll P t → (∀ n ∈ o, P (bare n)) → ∀ n ∈ (finT t o).2, P (bare n)
  | .leaf n, o, ⟨_, _, h3⟩, hp, h => putNd_all h (by rw [h3]; exact hp)
  | .un n a, o, ⟨_, _, h3, h4⟩, ⟨hp, ha⟩, h => putNd_all (finT_all a h4 ha h) (by show P (bare n); rw [h3]; exact hp)
  | .bin n a b, o, ⟨_, _, h3, h4, h5⟩, ⟨hp, ha, hb⟩, h => putNd_all (finT_all b h5 hb (finT_all a h4 ha h)) (by show P (bare n); rw [h3]; exact hp)
theorem opsOk_x {n : Nd} {k : Nat} (h : opsOk n k) (hu : usesX n.op = true) : 0 ≤ n.x ∧ n.x.toNat < k := by
  have := h.1
  rw [if_pos hu] at this
  omega
theorem opsOk_y {n : Nd} {k : Nat} (h : opsOk n k) (hu : usesY n.op = true) : 0 ≤ n.y ∧ n.y.toNat < k := by
  have := h.2
  rw [if_pos hu] at this
  omega
theorem treeF_fuel {f : List Nd} (hf : opsL f) : ∀ (m i : Nat), i < m → i < f.length → treeF f m i = treeAt f i := by
  have key : ∀ (m m' i : Nat), i < m → i < m' → i < f.length → treeF f m i = treeF f m' i := by
    intro m
    induction m with
    | zero => intro m' i h; omega
    | succ m ih =>
      intro m' i h1 h2 hl
      cases m' with
      | zero => omega
      | succ m' =>
        have ho := hf i hl
        unfold treeF
        simp only
        split
        · rename_i hy
          have hx := opsOk_x ho (usesY_X hy)
          have hy2 := opsOk_y ho hy
          rw [ih m' _ (by omega) (by omega) (by omega), ih m' _ (by omega) (by omega) (by omega)]
        · split
          · rename_i _ hx
            have hx := opsOk_x ho hx
            rw [ih m' _ (by omega) (by omega) (by omega)]
          · rfl
  intro m i h hl
  exact key m (i + 1) i h (by omega) hl
theorem treeAt_eq {f : List Nd} (hf : opsL f) {i : Nat} (hi : i < f.length) :
    treeAt f i = (if usesY (f.getD i nd0).op = true then .bin (bare (f.getD i nd0)) (treeAt f (f.getD i nd0).x.toNat) (treeAt f (f.getD i nd0).y.toNat)
      else if usesX (f.getD i nd0).op = true then .un (bare (f.getD i nd0)) (treeAt f (f.getD i nd0).x.toNat) else .leaf (bare (f.getD i nd0))) := by
  have ho := hf i hi
  show treeF f (i + 1) i = _
  unfold treeF
  simp only
  split
  · rename_i hy
    have hx := opsOk_x ho (usesY_X hy)
    have hy2 := opsOk_y ho hy
    rw [treeF_fuel hf i _ hx.2 (by omega), treeF_fuel hf i _ hy2.2 (by omega)]
  · split
    · rename_i _ hx
      have hx := opsOk_x ho hx
      rw [treeF_fuel hf i _ hx.2 (by omega)]
    · rfl
theorem treeAt_ok {f : List Nd} (hf : opsL f) : ∀ (k i : Nat), i < k → i < f.length → trOk (treeAt f i) := by
  intro k
  induction k with
  | zero => intro i h; omega
  | succ k ih =>
    intro i h hi
    have ho := hf i hi
    rw [treeAt_eq hf hi]
    split
    · rename_i hy
      have hx := opsOk_x ho (usesY_X hy)
      have hy2 := opsOk_y ho hy
      exact ⟨usesY_X hy, hy, rfl, ih _ (by omega) (by omega), ih _ (by omega) (by omega)⟩
    · rename_i hy
      split
      · rename_i hx
        have hx2 := opsOk_x ho hx
        exact ⟨hx, Bool.eq_false_iff.2 hy, rfl, ih _ (by omega) (by omega)⟩
      · rename_i hx
        exact ⟨Bool.eq_false_iff.2 hx, Bool.eq_false_iff.2 hy, rfl⟩
theorem treeAt_all {P : Nd → Prop} {f : List Nd} (hf : opsL f) (hP : ∀ n ∈ f, P (bare n)) : ∀ (k i : Nat), i < k → i < f.length → trAll P (treeAt f i) := by
  intro k
  induction k with
  | zero => intro i h; omega
  | succ k ih =>
    intro i h hi
    have ho := hf i hi
    have hp : P (bare (f.getD i nd0)) := by
      have : f.getD i nd0 = f[i] := by simp [hi]
      rw [this]; exact hP _ (List.getElem_mem hi)
    rw [treeAt_eq hf hi]
    split
    · rename_i hy
      have hx := opsOk_x ho (usesY_X hy)
      have hy2 := opsOk_y ho hy
      exact ⟨hp, ih _ (by omega) (by omega), ih _ (by omega) (by omega)⟩
    · split
      · rename_i _ hx
        have hx2 := opsOk_x ho hx
        exact ⟨hp, ih _ (by omega) (by omega)⟩
      · exact hp
/-- a tree that lies in a list is the tree of the list's node -/
theorem rep_tree {o : List Nd} (ho : opsL o) : ∀ (t : Tr) (k : Nat), trOk t → rep o k t → treeAt o k = t
  | .leaf n, k, ⟨h1, h2, h3⟩, hr => by
    have hl := (List.getElem?_eq_some_iff.1 hr).1
    rw [treeAt_eq ho hl, getD_some hr, if_neg (by simp [h2]), if_neg (by simp [h1]), h3]
  | .un n a, k, ⟨h1, h2, h3, h4⟩, ⟨x, hk, ha⟩ => by
    have hl := (List.getElem?_eq_some_iff.1 hk).1
    have e : bare { n with x := (x : Int) } = n := by show bare n = n; exact h3
    rw [treeAt_eq ho hl, getD_some hk, if_neg (by simp [h2]), if_pos h1, e]
    show Tr.un n (treeAt o x) = _
    rw [rep_tree ho a x h4 ha]
  | .bin n a b, k, ⟨h1, h2, h3, h4, h5⟩, ⟨x, y, hk, ha, hb⟩ => by
    have hl := (List.getElem?_eq_some_iff.1 hk).1
    have e : bare { n with x := (x : Int), y := (y : Int) } = n := by show bare n = n; exact h3
    rw [treeAt_eq ho hl, getD_some hk, if_pos h2, e]
    show Tr.bin n (treeAt o x) (treeAt o y) = _
    rw [rep_tree ho a x h4 ha, rep_tree ho b y h5 hb]
theorem bare_with (n : Nd) (x y : Int) (hx : n.x = x) (hy : n.y = y) : n = { bare n with x := x, y := y } := by
  subst hx; subst hy; rfl
theorem rep_of_tree {o : List Nd} (ho : opsL o) : ∀ (k i : Nat), i < k → i < o.length → rep o i (treeAt o i) := by
  intro k
  induction k with
  | zero => intro i h; omega
  | succ k ih =>
    intro i h hi
    have h0 := ho i hi
    have hg : o[i]? = some (o.getD i nd0) := by simp [hi]
    rw [treeAt_eq ho hi]
    split
    · rename_i hy
      have hx := opsOk_x h0 (usesY_X hy)
      have hy2 := opsOk_y h0 hy
      refine ⟨(o.getD i nd0).x.toNat, (o.getD i nd0).y.toNat, ?_, ih _ (by omega) (by omega), ih _ (by omega) (by omega)⟩
      exact hg.trans (congrArg some (bare_with _ _ _ (by omega) (by omega)))
    · rename_i hy
      have e2 : (o.getD i nd0).y = 0 := by have := h0.2; rw [if_neg hy] at this; exact this
      split
      · rename_i hx
        have hx2 := opsOk_x h0 hx
        refine ⟨(o.getD i nd0).x.toNat, ?_, ih _ (by omega) (by omega)⟩
        exact hg.trans (congrArg some (bare_with _ _ 0 (by omega) e2))
      · rename_i hx
        have e1 : (o.getD i nd0).x = 0 := by have := h0.1; rw [if_neg hx] at this; exact this
        exact hg.trans (congrArg some (bare_with _ 0 0 e1 e2))
/-- what the walk knows: its list has no equal nodes, and each finished node's tree lies in it -/
structure WkOk (f : List Nd) (s : Wk) : Prop where
  len : s.done.length = f.length
  nodup : s.out.Nodup
  there : ∀ j k, s.done.getD j none = some k → j < f.length ∧ rep s.out k (treeAt f j)
theorem getD_set {l : List (Option Nat)} {i j : Nat} {v : Option Nat} (h : i < l.length) : (l.set i v).getD j none = if i = j then v else l.getD j none := by
  rw [List.getD_eq_getElem?_getD, List.getElem?_set, List.getD_eq_getElem?_getD]
  by_cases e : i = j
  · rw [if_pos e, if_pos e, if_pos h]; rfl
  · rw [if_neg e, if_neg e]
/-- the walk over the list is the walk over the tree -/
theorem finW_tree {f : List Nd} (hf : opsL f) : ∀ (fuel i : Nat) (s : Wk), i < fuel → i < f.length → WkOk f s →
    (finW f fuel i s).1 = (finT (treeAt f i) s.out).1 ∧ (finW f fuel i s).2.out = (finT (treeAt f i) s.out).2 ∧ WkOk f (finW f fuel i s).2 ∧
      (finW f fuel i s).2.done.getD i none = some (finW f fuel i s).1 ∧ (∀ j, i < j → (finW f fuel i s).2.done.getD j none = s.done.getD j none) := by
  intro fuel
  induction fuel with
  | zero => intro i s h; omega
  | succ fuel ih =>
    intro i s h hi hs
    unfold finW
    cases hd : s.done.getD i none with
    | some k =>
      have hr := (hs.there i k hd).2
      simp only
      rw [finT_old hs.nodup _ _ hr]
      exact ⟨rfl, rfl, hs, hd, fun _ _ => trivial⟩
    | none =>
      simp only
      have ho := hf i hi
      rw [treeAt_eq hf hi]
      have fin : ∀ (t : Tr) (r : Nat × Wk) (m : Nd), WkOk f r.2 → finT t s.out = putNd r.2.out m → treeAt f i = t → (∀ j, i ≤ j → r.2.done.getD j none = s.done.getD j none) →
          (putNd r.2.out m).1 = (finT t s.out).1 ∧ (putNd r.2.out m).2 = (finT t s.out).2 ∧ WkOk f ⟨(putNd r.2.out m).2, r.2.done.set i (some (putNd r.2.out m).1)⟩ ∧
          (r.2.done.set i (some (putNd r.2.out m).1)).getD i none = some (putNd r.2.out m).1 ∧ (∀ j, i < j → (r.2.done.set i (some (putNd r.2.out m).1)).getD j none = s.done.getD j none) := by
        intro t r m hw he ht hg
        have hl : i < r.2.done.length := by rw [hw.len]; exact hi
        refine ⟨by rw [he], by rw [he], ⟨by show (r.2.done.set i _).length = _; rw [List.length_set, hw.len], putNd_nodup hw.nodup m, fun j k hj => ?_⟩, by rw [getD_set hl, if_pos rfl], fun j hj => by rw [getD_set hl, if_neg (by omega)]; exact hg j (by omega)⟩
        rw [getD_set hl] at hj
        by_cases e : i = j
        · rw [if_pos e] at hj
          injection hj with hj
          subst e; subst hj
          refine ⟨hi, ?_⟩
          show rep (putNd r.2.out m).2 _ _
          rw [ht, ← he]
          exact finT_rep t s.out
        · rw [if_neg e] at hj
          obtain ⟨h1, h2⟩ := hw.there j k hj
          exact ⟨h1, rep_mono (putNd_pre _ _) _ _ h2⟩
      by_cases hy : usesY (f.getD i nd0).op = true
      · have hx := usesY_X hy
        have ox := opsOk_x ho hx
        have oy := opsOk_y ho hy
        rw [if_pos hx, if_pos hy, if_pos hy]
        obtain ⟨a1, a2, a3, a4, a5⟩ := ih (f.getD i nd0).x.toNat s (by omega) (by omega) hs
        obtain ⟨b1, b2, b3, b4, b5⟩ := ih (f.getD i nd0).y.toNat (finW f fuel (f.getD i nd0).x.toNat s).2 (by omega) (by omega) a3
        refine fin (.bin (bare (f.getD i nd0)) (treeAt f (f.getD i nd0).x.toNat) (treeAt f (f.getD i nd0).y.toNat)) (finW f fuel (f.getD i nd0).y.toNat (finW f fuel (f.getD i nd0).x.toNat s).2) _ b3 ?_ (by rw [treeAt_eq hf hi, if_pos hy]) (fun j hj => by rw [b5 j (by omega), a5 j (by omega)])
        rw [b2, b1, a2, a1]
        rfl
      · rw [if_neg hy, if_neg hy]
        have e2 : (f.getD i nd0).y = 0 := by have := ho.2; rw [if_neg hy] at this; exact this
        by_cases hx : usesX (f.getD i nd0).op = true
        · have ox := opsOk_x ho hx
          rw [if_pos hx, if_pos hx]
          obtain ⟨a1, a2, a3, a4, a5⟩ := ih (f.getD i nd0).x.toNat s (by omega) (by omega) hs
          refine fin (.un (bare (f.getD i nd0)) (treeAt f (f.getD i nd0).x.toNat)) (finW f fuel (f.getD i nd0).x.toNat s) _ a3 ?_ (by rw [treeAt_eq hf hi, if_neg hy, if_pos hx]) (fun j hj => by rw [a5 j (by omega)])
          rw [a2, a1]
          show putNd _ { bare (f.getD i nd0) with x := _ } = putNd _ { f.getD i nd0 with x := _, y := _ }
          congr 1
          show Nd.mk _ _ _ _ _ 0 = Nd.mk _ _ _ _ _ (((f.getD i nd0).y.toNat : Nat) : Int)
          rw [e2]; rfl
        · have e1 : (f.getD i nd0).x = 0 := by have := ho.1; rw [if_neg hx] at this; exact this
          rw [if_neg hx, if_neg hx]
          refine fin (.leaf (bare (f.getD i nd0))) ((f.getD i nd0).x.toNat, s) _ hs ?_ (by rw [treeAt_eq hf hi, if_neg hy, if_neg hx]) (fun j hj => rfl)
          show putNd _ (bare _) = putNd _ _
          congr 1
          show Nd.mk _ _ _ _ 0 0 = Nd.mk _ _ _ _ (((f.getD i nd0).x.toNat : Nat) : Int) (((f.getD i nd0).y.toNat : Nat) : Int)
          rw [e1, e2]; rfl
/-- the canonical list of a tree -/
def canT (t : Tr) : List Nd := (finT t []).2
theorem wk0 (f : List Nd) : WkOk f ⟨[], List.replicate f.length none⟩ := by
  refine ⟨by simp, List.nodup_nil, fun j k h => ?_⟩
  have h : (List.replicate f.length (none : Option Nat)).getD j none = some k := h
  rw [List.getD_eq_getElem?_getD, List.getElem?_replicate] at h
  split at h <;> cases h
theorem walk_tree {f : List Nd} (hf : opsL f) {fuel i : Nat} (h : i < fuel) (hi : i < f.length) : (finW f fuel i ⟨[], List.replicate f.length none⟩).2.out = canT (treeAt f i) :=
  (finW_tree hf fuel i _ h hi (wk0 f)).2.1
theorem canonF_tree {f : List Nd} (hf : opsL f) (hn : f ≠ []) : canonF f = canT (treeAt f (f.length - 1)) := by
  have : f.length ≠ 0 := by simpa using hn
  exact walk_tree hf (by omega) (by omega)
theorem take_getD {f : List Nd} {m j : Nat} (h : j < m) : (f.take m).getD j nd0 = f.getD j nd0 := by
  rw [List.getD_eq_getElem?_getD, List.getElem?_take, if_pos h, List.getD_eq_getElem?_getD]
theorem opsL_take {f : List Nd} (hf : opsL f) (m : Nat) : opsL (f.take m) := by
  intro i hi
  rw [List.length_take] at hi
  rw [take_getD (by omega)]
  exact hf i (by omega)
theorem treeAt_take {f : List Nd} (hf : opsL f) (m : Nat) : ∀ (k i : Nat), i < k → i < m → i < f.length → treeAt (f.take m) i = treeAt f i := by
  intro k
  induction k with
  | zero => intro i h; omega
  | succ k ih =>
    intro i h hm hi
    have ho := hf i hi
    rw [treeAt_eq (opsL_take hf m) (by rw [List.length_take]; omega), treeAt_eq hf hi, take_getD hm]
    split
    · rename_i hy
      have hx := opsOk_x ho (usesY_X hy)
      have hy2 := opsOk_y ho hy
      rw [ih _ (by omega) (by omega) (by omega), ih _ (by omega) (by omega) (by omega)]
    · split
      · rename_i _ hx
        have hx2 := opsOk_x ho hx
        rw [ih _ (by omega) (by omega) (by omega)]
      · rfl
theorem canT_ops {t : Tr} (h : trOk t) : opsL (canT t) := finT_ops t h (fun i hi => absurd hi (by simp))
theorem canT_nodup (t : Tr) : (canT t).Nodup := finT_nodup t List.nodup_nil
theorem putNd_lastOr (o : List Nd) (n : Nd) : n ∈ o ∨ (putNd o n).1 = (putNd o n).2.length - 1 := by
  unfold putNd
  split
  · rename_i h; exact .inl h
  · right; show o.length = (o ++ [n]).length - 1; simp
end Go.Proofs.Ws
/- Layer 5 as plain mathematics: subtrees, which nodes are used, lengths of canonical lists. -/
namespace Go.Proofs.Ws
open Go
def szT : Tr → Nat
  | .leaf _ => 1
  | .un _ a => szT a + 1
  | .bin _ a b => szT a + szT b + 1
/-- a tree within a tree -/
def subT (s : Tr) : Tr → Prop
  | .leaf n => s = .leaf n
  | .un n a => s = .un n a ∨ subT s a
  | .bin n a b => s = .bin n a b ∨ subT s a ∨ subT s b
theorem subT_refl (t : Tr) : subT t t := by
  cases t with
  | leaf n => exact rfl
  | un n a => exact .inl rfl
  | bin n a b => exact .inl rfl
theorem subT_sz {s : Tr} : ∀ {t : Tr}, subT s t → szT s ≤ szT t
  | .leaf n, h => by have h : s = .leaf n := h; rw [h]; exact Nat.le_refl _
  | .un n a, h => by
    rcases h with h | h
    · rw [h]; exact Nat.le_refl _
    · have := subT_sz h
      show szT s ≤ szT a + 1
      omega
  | .bin n a b, h => by
    rcases h with h | h | h
    · rw [h]; exact Nat.le_refl _
    · have := subT_sz h
      show szT s ≤ szT a + szT b + 1
      omega
    · have := subT_sz h
      show szT s ≤ szT a + szT b + 1
      omega
theorem subT_ok {s : Tr} : ∀ {t : Tr}, subT s t → trOk t → trOk s
  | .leaf n, h, hk => by have h : s = .leaf n := h; rw [h]; exact hk
  | .un n a, h, hk => by
    rcases h with h | h
    · rw [h]; exact hk
    · exact subT_ok h hk.2.2.2
  | .bin n a b, h, hk => by
    rcases h with h | h | h
    · rw [h]; exact hk
    · exact subT_ok h hk.2.2.2.1
    · exact subT_ok h hk.2.2.2.2
/-- what is put new stands for a tree within the tree -/
theorem finT_sub : ∀ (t : Tr) (o : List Nd) (k : Nat), o.length ≤ k → k < (finT t o).2.length → ∃ s, rep (finT t o).2 k s ∧ subT s t
  | .leaf n, o, k, h1, h2 => by
    have hl := putNd_len o n
    have e2 : (finT (.leaf n) o) = putNd o n := rfl
    rw [e2] at h2 ⊢
    have hk : k = (putNd o n).1 := by
      unfold putNd at h2 ⊢
      split
      · rename_i hm
        rw [if_pos hm] at h2
        have h2 : k < o.length := h2
        omega
      · rename_i hm
        rw [if_neg hm] at h2
        have h2 : k < (o ++ [n]).length := h2
        rw [List.length_append] at h2
        have h2 : k < o.length + 1 := h2
        show k = o.length
        omega
    rw [hk]
    exact ⟨.leaf n, putNd_at o n, rfl⟩
  | .un n a, o, k, h1, h2 => by
    have ih := finT_sub a o
    have e2 : (finT (.un n a) o) = putNd (finT a o).2 { n with x := ((finT a o).1 : Int) } := rfl
    have hrep := finT_rep (.un n a) o
    have hpre := putNd_pre (finT a o).2 { n with x := ((finT a o).1 : Int) }
    by_cases hk : k < (finT a o).2.length
    · obtain ⟨s, h3, h4⟩ := ih k h1 hk
      exact ⟨s, by rw [e2]; exact rep_mono hpre s k h3, .inr h4⟩
    · refine ⟨.un n a, ?_, .inl rfl⟩
      have hk2 : k = (finT (.un n a) o).1 := by
        rw [e2] at h2 ⊢
        unfold putNd at h2 ⊢
        split
        · rename_i hm
          rw [if_pos hm] at h2
          exact absurd h2 hk
        · rename_i hm
          rw [if_neg hm] at h2
          have h2 : k < ((finT a o).2 ++ [_]).length := h2
          rw [List.length_append] at h2
          have h2 : k < (finT a o).2.length + 1 := h2
          show k = (finT a o).2.length
          omega
      rw [hk2]; exact hrep
  | .bin n a b, o, k, h1, h2 => by
    have iha := finT_sub a o
    have ihb := finT_sub b (finT a o).2
    have e2 : (finT (.bin n a b) o) = putNd (finT b (finT a o).2).2 { n with x := ((finT a o).1 : Int), y := ((finT b (finT a o).2).1 : Int) } := rfl
    have hrep := finT_rep (.bin n a b) o
    have hpre := putNd_pre (finT b (finT a o).2).2 { n with x := ((finT a o).1 : Int), y := ((finT b (finT a o).2).1 : Int) }
    by_cases hk : k < (finT b (finT a o).2).2.length
    · by_cases hka : k < (finT a o).2.length
      · obtain ⟨s, h3, h4⟩ := iha k h1 hka
        exact ⟨s, by rw [e2]; exact rep_mono hpre s k (rep_mono (finT_pre b _) s k h3), .inr (.inl h4)⟩
      · obtain ⟨s, h3, h4⟩ := ihb k (by omega) hk
        exact ⟨s, by rw [e2]; exact rep_mono hpre s k h3, .inr (.inr h4)⟩
    · refine ⟨.bin n a b, ?_, .inl rfl⟩
      have hk2 : k = (finT (.bin n a b) o).1 := by
        rw [e2] at h2 ⊢
        unfold putNd at h2 ⊢
        split
        · rename_i hm
          rw [if_pos hm] at h2
          exact absurd h2 hk
        · rename_i hm
          rw [if_neg hm] at h2
          have h2 : k < ((finT b (finT a o).2).2 ++ [_]).length := h2
          rw [List.length_append] at h2
          have h2 : k < (finT b (finT a o).2).2.length + 1 := h2
          show k = (finT b (finT a o).2).2.length
          omega
      rw [hk2]; exact hrep
/-- each node of a canonical list stands for a subtree -/
theorem canT_sub {t : Tr} (ht : trOk t) {k : Nat} (hk : k < (canT t).length) : subT (treeAt (canT t) k) t := by
  obtain ⟨s, h1, h2⟩ := finT_sub t [] k (Nat.zero_le _) hk
  have := rep_tree (canT_ops ht) s k (subT_ok h2 ht) h1
  rw [this]; exact h2
/-- the root is the last node -/
theorem canT_last {t : Tr} (ht : trOk t) : (finT t []).1 = (canT t).length - 1 := by
  have key : ∀ (o : List Nd) (m : Nd), finT t [] = putNd o m → (∀ k, k < o.length → ∃ s, rep o k s ∧ trOk s ∧ szT s < szT t) → opsL o → (finT t []).1 = (canT t).length - 1 := by
    intro o m he hs ho
    unfold canT
    rw [he]
    rcases putNd_lastOr o m with hm | h
    · exfalso
      have hrep := finT_rep t []
      rw [he] at hrep
      have e : putNd o m = (o.idxOf m, o) := by unfold putNd; rw [if_pos hm]
      rw [e] at hrep
      have hk : o.idxOf m < o.length := List.idxOf_lt_length_of_mem hm
      obtain ⟨s, h1, h2, h3⟩ := hs _ hk
      have t1 := rep_tree ho s _ h2 h1
      have t2 := rep_tree ho t _ ht hrep
      rw [t1] at t2
      rw [t2] at h3
      omega
    · exact h
  cases t with
  | leaf n =>
    exact key [] n rfl (fun k hk => absurd hk (by simp)) (fun i hi => absurd hi (by simp))
  | un n a =>
    have ha : trOk a := ht.2.2.2
    refine key (finT a []).2 _ rfl (fun k hk => ?_) (canT_ops ha)
    obtain ⟨s, h1, h2⟩ := finT_sub a [] k (Nat.zero_le _) hk
    have := subT_sz h2
    exact ⟨s, h1, subT_ok h2 ha, by show szT s < szT a + 1; omega⟩
  | bin n a b =>
    have ha : trOk a := ht.2.2.2.1
    have hb : trOk b := ht.2.2.2.2
    refine key (finT b (finT a []).2).2 _ rfl (fun k hk => ?_) (finT_ops b hb (canT_ops ha))
    by_cases hka : k < (finT a []).2.length
    · obtain ⟨s, h1, h2⟩ := finT_sub a [] k (Nat.zero_le _) hka
      have := subT_sz h2
      exact ⟨s, rep_mono (finT_pre b _) s k h1, subT_ok h2 ha, by show szT s < szT a + szT b + 1; omega⟩
    · obtain ⟨s, h1, h2⟩ := finT_sub b (finT a []).2 k (by omega) hk
      have := subT_sz h2
      exact ⟨s, h1, subT_ok h2 hb, by show szT s < szT a + szT b + 1; omega⟩
/-- the canonical list stands for the tree -/
theorem canT_tree {t : Tr} (ht : trOk t) : treeAt (canT t) ((canT t).length - 1) = t := by
  have h := finT_rep t []
  rw [canT_last ht] at h
  exact rep_tree (canT_ops ht) t _ ht h
theorem canT_ne (t : Tr) : canT t ≠ [] := fun e => by have := finT_lt t []; unfold canT at e; rw [e] at this; simp at this
end Go.Proofs.Ws
namespace Go.Proofs.Ws
open Go
/-- node j uses node k -/
def uses (o : List Nd) (j k : Nat) : Prop := j < o.length ∧ ((usesX (o.getD j nd0).op = true ∧ (o.getD j nd0).x = (k : Int)) ∨ (usesY (o.getD j nd0).op = true ∧ (o.getD j nd0).y = (k : Int)))
end Go.Proofs.Ws
namespace Go.Proofs.Ws
open Go
theorem len_sub {α : Type} [DecidableEq α] : ∀ (l m : List α), l.Nodup → (∀ a ∈ l, a ∈ m) → l.length ≤ m.length
  | [], _, _, _ => Nat.zero_le _
  | a :: l, m, h, hs => by
    have ha : a ∈ m := hs a List.mem_cons_self
    have hn := List.nodup_cons.1 h
    have := len_sub l (m.erase a) hn.2 (fun b hb => (List.mem_erase_of_ne (fun e => hn.1 (by rw [← e]; exact hb))).2 (hs b (List.mem_cons_of_mem _ hb)))
    rw [List.length_erase_of_mem ha] at this
    have := List.length_pos_of_mem ha
    simp only [List.length_cons]
    omega
/-- a strict subtree is smaller -/
theorem subT_lt {s t : Tr} (h : subT s t) : s = t ∨ szT s < szT t := by
  cases t with
  | leaf n => exact .inl h
  | un n a =>
    rcases h with h | h
    · exact .inl h
    · have := subT_sz h
      exact .inr (by show szT s < szT a + 1; omega)
  | bin n a b =>
    rcases h with h | h | h
    · exact .inl h
    · have := subT_sz h
      exact .inr (by show szT s < szT a + szT b + 1; omega)
    · have := subT_sz h
      exact .inr (by show szT s < szT a + szT b + 1; omega)
theorem subT_trans {r s : Tr} (h : subT r s) : ∀ {t : Tr}, subT s t → subT r t
  | .leaf n, h2 => by have h2 : s = .leaf n := h2; rw [h2] at h; exact h
  | .un n a, h2 => by
    rcases h2 with h2 | h2
    · rw [h2] at h; exact h
    · exact .inr (subT_trans h h2)
  | .bin n a b, h2 => by
    rcases h2 with h2 | h2 | h2
    · rw [h2] at h; exact h
    · exact .inr (.inl (subT_trans h h2))
    · exact .inr (.inr (subT_trans h h2))
/-- a subtree of a tree that lies in a list lies there -/
theorem rep_sub {o : List Nd} {s : Tr} : ∀ {t : Tr} {k : Nat}, rep o k t → subT s t → ∃ j, rep o j s
  | .leaf n, k, h, h2 => by have h2 : s = .leaf n := h2; rw [h2]; exact ⟨k, h⟩
  | .un n a, k, h, h2 => by
    rcases h2 with h2 | h2
    · rw [h2]; exact ⟨k, h⟩
    · obtain ⟨x, _, h3⟩ := h
      exact rep_sub h3 h2
  | .bin n a b, k, h, h2 => by
    rcases h2 with h2 | h2 | h2
    · rw [h2]; exact ⟨k, h⟩
    · obtain ⟨x, y, _, h3, _⟩ := h
      exact rep_sub h3 h2
    · obtain ⟨x, y, _, _, h3⟩ := h
      exact rep_sub h3 h2
theorem rep_lt {o : List Nd} {k : Nat} {t : Tr} (h : rep o k t) : k < o.length := by
  cases t with
  | leaf n => exact (List.getElem?_eq_some_iff.1 h).1
  | un n a => obtain ⟨x, h, _⟩ := h; exact (List.getElem?_eq_some_iff.1 h).1
  | bin n a b => obtain ⟨x, y, h, _⟩ := h; exact (List.getElem?_eq_some_iff.1 h).1
/-- all trees of a canonical list -/
def treesL (t : Tr) : List Tr := (List.range (canT t).length).map (treeAt (canT t))
theorem treesL_mem {t : Tr} (ht : trOk t) (s : Tr) : s ∈ treesL t ↔ subT s t := by
  unfold treesL
  rw [List.mem_map]
  constructor
  · rintro ⟨k, hk, rfl⟩
    exact canT_sub ht (List.mem_range.1 hk)
  · intro h
    obtain ⟨j, hj⟩ := rep_sub (finT_rep t []) h
    exact ⟨j, List.mem_range.2 (rep_lt hj), rep_tree (canT_ops ht) s j (subT_ok h ht) hj⟩
theorem treesL_nodup {t : Tr} (ht : trOk t) : (treesL t).Nodup := by
  unfold treesL
  rw [List.nodup_iff_pairwise_ne, List.pairwise_map]
  refine List.Pairwise.imp_of_mem ?_ (List.nodup_iff_pairwise_ne.1 List.nodup_range)
  intro i j hi hj hne he
  apply hne
  have hi := List.mem_range.1 hi
  have hj := List.mem_range.1 hj
  have r1 := rep_of_tree (canT_ops ht) (i + 1) i (by omega) hi
  have r2 := rep_of_tree (canT_ops ht) (j + 1) j (by omega) hj
  rw [← he] at r2
  have e1 := finT_old (canT_nodup t) _ i r1
  have e2 := finT_old (canT_nodup t) _ j r2
  rw [e1] at e2
  exact congrArg Prod.fst e2
/-- a subtree's canonical list is shorter, or it is the tree's own -/
theorem canT_len {s t : Tr} (ht : trOk t) (h : subT s t) : s = t ∨ (canT s).length < (canT t).length := by
  rcases subT_lt h with h1 | h1
  · exact .inl h1
  right
  have hs := subT_ok h ht
  have key := len_sub (t :: treesL s) (treesL t)
    (List.nodup_cons.2 ⟨fun hm => by have := subT_sz ((treesL_mem hs t).1 hm); omega, treesL_nodup hs⟩)
    (fun a ha => by
      rcases List.mem_cons.1 ha with rfl | ha
      · exact (treesL_mem ht _).2 (subT_refl _)
      · exact (treesL_mem ht a).2 (subT_trans ((treesL_mem hs a).1 ha) h))
  have e : ∀ r : Tr, (treesL r).length = (canT r).length := fun r => by unfold treesL; rw [List.length_map, List.length_range]
  rw [List.length_cons, e, e] at key
  omega
/-- the operator of a tree -/
def topT : Tr → Int
  | .leaf n => n.op
  | .un n _ => n.op
  | .bin n _ _ => n.op
theorem topT_at {o : List Nd} (ho : opsL o) {k : Nat} (hk : k < o.length) : topT (treeAt o k) = (o.getD k nd0).op := by
  rw [treeAt_eq ho hk]
  split
  · rfl
  · split <;> rfl
end Go.Proofs.Ws
/- Lists of words in cells, and memory of the call's own (no function of the program is named). -/
namespace Go.Proofs.YtcdmchaehafijaaDoor
open Go.RowKit Go.Proofs.Ws
theorem quiet_same {P : Program} {f : FuncId} {args : Array Value} {X : Nat → World} {n : Nat} {v : Value} (h : Calls P f args (X n) fun e w' => e = .returned v ∧ X n = w') :
    Calls P f args (X n) fun e w'' => e = .returned v ∧ ∃ m, w'' = X m := h.mono fun _ _ ⟨he, hm⟩ => ⟨he, n, hm.symm⟩
/-- a list of words in cells -/
def us (l : List Nat) : List Value := l.map (fun k : Nat => Value.int .u64 (k : Int))
theorem us_length (l : List Nat) : (us l).length = l.length := by simp [us]
/-- each is a word -/
def Words (l : List Nat) : Prop := ∀ x ∈ l, x < 18446744073709551616
theorem Reads.word_at {w : World} {B n : Nat} {A : Option Addr} {l : List Nat} (h : Reads w B 1 A n (us l)) {k : Nat} (hk : k < n) :
    ∃ ad x, A = some ad ∧ ad.block < B ∧ k < l.length ∧ l.getD k 0 = x ∧ x ∈ l ∧ l.drop k = x :: l.drop (k + 1) ∧ w.cell? (ad.add k) = some (.int .u64 (x : Int)) := by
  obtain ⟨ad, u, hA, hb, hu, hc⟩ := h.at_ hk
  unfold us at hu
  rw [List.getElem?_map] at hu
  have hl : k < l.length := by have := h.1; rw [us_length] at this; omega
  rw [List.getElem?_eq_getElem hl] at hu
  simp at hu
  subst hu
  exact ⟨ad, l[k], hA, hb, hl, by rw [List.getD_eq_getElem?_getD, List.getElem?_eq_getElem hl]; rfl, List.getElem_mem hl, List.drop_eq_getElem_cons hl, hc⟩
theorem words_getD {R : List Nat} (h : Words R) (k : Nat) : R.getD k 0 < 18446744073709551616 := by
  rw [List.getD_eq_getElem?_getD]
  by_cases hk : k < R.length
  · rw [List.getElem?_eq_getElem hk]; exact h _ (List.getElem_mem hk)
  · rw [List.getElem?_eq_none (by omega)]; decide
/-- block g holds just these words -/
def HoldsU (w : World) (g : Nat) (l : List Nat) : Prop := w.heap[g]? = some (.cells (us l).toArray 22 (0, 0))
theorem Tryd.infoU : (Tryd.prog.info? 22).map (fun i => (i.zero, i.size, i.bytes)) = some (some (.int .u64 0), 1, 8) := by kernel_rfl
theorem made_us (n : Nat) : madeCells (Value.int IntKind.u64 0).cells n = (us (List.replicate n 0)).toArray := by
  apply Array.ext
  · simp [madeCells, us]
  · intro i h1 h2
    simp [madeCells, us, Value.cells, Nat.mod_one]
theorem makeU (w : World) (n : Nat) (hn : n ≤ 1000000) : (Instr.makeSlice 61 (.int .i64 (n : Int)) (.int .i64 (n : Int))).run Tryd.prog w = .ok (.slice (some ⟨w.heap.size, 0, none⟩) n n) (w.alloc (.cells (us (List.replicate n 0)).toArray 22)) := by
  obtain ⟨i0, hi, hz0, hz1, hz2⟩ := info_parts Tryd.infoU
  have h := run_make (P := Tryd.prog) w 61 22 i0 (.int .u64 0) Tryd.underlying61 hi hz0 .i64 .i64 n n (by omega) (Int.le_refl _) (by rw [hz2]; omega) (by omega)
  rw [h, hz1]
  simp only [Int.toNat_natCast, Nat.mul_one]
  rw [made_us]
theorem HoldsU.cell {w : World} {g : Nat} {l : List Nat} (h : HoldsU w g l) (k : Nat) (hk : k < l.length) : w.cell? ⟨g, k, none⟩ = some (.int .u64 ((l.getD k 0 : Nat) : Int)) := by
  rw [Lib.cell_of_heap h, List.getElem?_toArray]
  unfold us
  rw [List.getElem?_map, List.getElem?_eq_getElem hk, List.getD_eq_getElem?_getD, List.getElem?_eq_getElem hk]
  rfl
theorem HoldsU.free {w : World} {g : Nat} {l : List Nat} (h : HoldsU w g l) (k : Nat) : w.frozen? ⟨g, k, none⟩ = false := Lib.frozen_of_heap h k
theorem HoldsU.put {w : World} {g : Nat} {l : List Nat} (h : HoldsU w g l) (k x : Nat) : HoldsU (w.setCell ⟨g, k, none⟩ (.int .u64 (x : Int))) g (l.set k x) := by
  unfold HoldsU at h ⊢
  have e : (us (l.set k x)).toArray = (us l).toArray.setIfInBounds k (.int .u64 (x : Int)) := by
    unfold us
    rw [List.map_set]
    simp
  rw [e]
  simp [World.setCell, Array.getElem?_modify, h]
theorem HoldsU.far {w : World} {g g' : Nat} {l : List Nat} (h : HoldsU w g l) (hne : g ≠ g') (k : Nat) (u : Value) : HoldsU (w.setCell ⟨g', k, none⟩ u) g l :=
  (Below.heap_setCell w ⟨g', k, none⟩ u g hne).trans h
theorem HoldsU.made (w : World) (l : List Nat) : HoldsU (w.alloc (.cells (us l).toArray 22)) w.heap.size l := heap_alloc_new w _
theorem HoldsU.lt {w : World} {g : Nat} {l : List Nat} (h : HoldsU w g l) : g < w.heap.size := (Array.getElem?_eq_some_iff.1 h).1
theorem HoldsU.alloc {w : World} {g : Nat} {l : List Nat} (h : HoldsU w g l) (o : Obj) : HoldsU (w.alloc o) g l := (Below.heap_alloc w o g h.lt).trans h
theorem addr0 (g j : Nat) : (⟨g, 0, none⟩ : Addr).add j = ⟨g, j, none⟩ := by
  unfold Addr.add
  split
  · subst_vars; rfl
  · simp
theorem HoldsU.reads {w : World} {g : Nat} {l : List Nat} (h : HoldsU w g l) : Reads w w.heap.size 1 (some ⟨g, 0, none⟩) l.length (us l) := by
  refine ⟨by rw [us_length]; omega, fun _ => ⟨_, rfl, h.lt, fun j u hu => ?_⟩⟩
  rw [addr0]
  unfold us at hu
  rw [List.getElem?_map] at hu
  obtain ⟨k, hk, rfl⟩ := Option.map_eq_some_iff.1 hu
  have hj : j < l.length := by
    by_cases h' : j < l.length
    · exact h'
    · rw [List.getElem?_eq_none (by omega)] at hk; cases hk
  rw [h.cell j hj, List.getD_eq_getElem?_getD, hk]; rfl
theorem HoldsU.below {w w' : World} {B g : Nat} {l : List Nat} (h : HoldsU w g l) (hb : Below B w w') (hg : g < B) : HoldsU w' g l := (hb.block g hg).trans h
theorem Reads.word_k {w : World} {B n : Nat} {A : Option Addr} {l : List Nat} (h : Reads w B 1 A n (us l)) {k : Nat} (hk : k < n) :
    ∃ ad, A = some ad ∧ ad.block < B ∧ w.cell? (ad.add k) = some (.int .u64 ((l.getD k 0 : Nat) : Int)) := by
  obtain ⟨ad, x, hA, hb, _, hx, _, _, hc⟩ := h.word_at hk
  exact ⟨ad, hA, hb, by rw [hx]; exact hc⟩
/-- whatever lay below B, block g apart, lies as it lay -/
structure BelowBut (B g : Nat) (w w' : World) : Prop where
  os : w'.os = w.os
  tape : w'.tape = w.tape
  output : w'.output = w.output
  size : w.heap.size ≤ w'.heap.size
  block : ∀ k, k < B → k ≠ g → w'.heap[k]? = w.heap[k]?
theorem BelowBut.refl (B g : Nat) (w : World) : BelowBut B g w w := ⟨rfl, rfl, rfl, Nat.le_refl _, fun _ _ _ => rfl⟩
theorem BelowBut.of {B : Nat} {w w' : World} (h : Below B w w') (g : Nat) : BelowBut B g w w' := ⟨h.os, h.tape, h.output, h.size, fun k hk _ => h.block k hk⟩
theorem BelowBut.trans {B g : Nat} {a b c : World} (h : BelowBut B g a b) (k : BelowBut B g b c) : BelowBut B g a c :=
  ⟨k.os.trans h.os, k.tape.trans h.tape, k.output.trans h.output, Nat.le_trans h.size k.size, fun j hj hg => (k.block j hj hg).trans (h.block j hj hg)⟩
theorem BelowBut.setCell {B g : Nat} {a w : World} (h : BelowBut B g a w) (k : Nat) (u : Value) : BelowBut B g a (w.setCell ⟨g, k, none⟩ u) := by
  have e : BelowBut B g w (w.setCell ⟨g, k, none⟩ u) := by
    have b := (Below.refl 0 w).setCell (p := ⟨g, k, none⟩) (Nat.zero_le _) u
    exact ⟨b.os, b.tape, b.output, b.size, fun j _ hg => Below.heap_setCell w ⟨g, k, none⟩ u j hg⟩
  exact h.trans e
theorem BelowBut.drew {B g : Nat} {a w : World} (h : BelowBut B g a w) : BelowBut B g a w.drew := ⟨h.os, h.tape, h.output, h.size, h.block⟩
theorem BelowBut.mono {B B' g : Nat} {w w' : World} (h : BelowBut B g w w') (hB : B' ≤ B) : BelowBut B' g w w' := ⟨h.os, h.tape, h.output, h.size, fun k hk hg => h.block k (Nat.lt_of_lt_of_le hk hB) hg⟩
/-- what lay below g too lies as it lay -/
theorem BelowBut.below {B g : Nat} {w w' : World} (h : BelowBut B g w w') (hg : B ≤ g) : Below B w w' := ⟨h.os, h.tape, h.output, h.size, fun k hk => h.block k hk (by omega)⟩
/-- block g holds these words, and maybe more behind them -/
def HoldsP (w : World) (g : Nat) (l : List Nat) : Prop := ∃ pad : List Value, w.heap[g]? = some (.cells (us l ++ pad).toArray 22 (0, 0))
theorem HoldsU.pad {w : World} {g : Nat} {l : List Nat} (h : HoldsU w g l) : HoldsP w g l := ⟨[], by rw [List.append_nil]; exact h⟩
theorem HoldsP.cell {w : World} {g : Nat} {l : List Nat} (h : HoldsP w g l) (k : Nat) (hk : k < l.length) : w.cell? ⟨g, k, none⟩ = some (.int .u64 ((l.getD k 0 : Nat) : Int)) := by
  obtain ⟨pad, h⟩ := h
  rw [Lib.cell_of_heap h, List.getElem?_toArray, List.getElem?_append_left (by rw [us_length]; exact hk)]
  unfold us
  rw [List.getElem?_map, List.getElem?_eq_getElem hk, List.getD_eq_getElem?_getD, List.getElem?_eq_getElem hk]
  rfl
theorem HoldsP.free {w : World} {g : Nat} {l : List Nat} (h : HoldsP w g l) (k : Nat) : w.frozen? ⟨g, k, none⟩ = false := by
  obtain ⟨pad, h⟩ := h
  exact Lib.frozen_of_heap h k
theorem HoldsP.put {w : World} {g : Nat} {l : List Nat} (h : HoldsP w g l) (k x : Nat) : HoldsP (w.setCell ⟨g, k, none⟩ (.int .u64 (x : Int))) g (l.set k x) := by
  obtain ⟨pad, h⟩ := h
  by_cases hk : k < l.length
  · refine ⟨pad, ?_⟩
    have e : (us (l.set k x) ++ pad).toArray = (us l ++ pad).toArray.setIfInBounds k (.int .u64 (x : Int)) := by
      unfold us
      rw [List.map_set]
      simp [hk]
    rw [e]
    simp [World.setCell, Array.getElem?_modify, h]
  · refine ⟨pad.set (k - l.length) (.int .u64 (x : Int)), ?_⟩
    have e : (us (l.set k x) ++ pad.set (k - l.length) (.int .u64 (x : Int))).toArray = (us l ++ pad).toArray.setIfInBounds k (.int .u64 (x : Int)) := by
      rw [List.set_eq_of_length_le (by omega)]
      simp [List.set_append, us_length, hk]
    rw [e]
    simp [World.setCell, Array.getElem?_modify, h]
theorem HoldsP.lt {w : World} {g : Nat} {l : List Nat} (h : HoldsP w g l) : g < w.heap.size := by
  obtain ⟨pad, h⟩ := h
  exact (Array.getElem?_eq_some_iff.1 h).1
theorem HoldsP.below {w w' : World} {B g : Nat} {l : List Nat} (h : HoldsP w g l) (hb : Below B w w') (hg : g < B) : HoldsP w' g l := by
  obtain ⟨pad, h⟩ := h
  exact ⟨pad, (hb.block g hg).trans h⟩
theorem HoldsP.reads {w : World} {g : Nat} {l : List Nat} (h : HoldsP w g l) : Reads w w.heap.size 1 (some ⟨g, 0, none⟩) l.length (us l) := by
  refine ⟨by rw [us_length]; omega, fun _ => ⟨_, rfl, h.lt, fun j u hu => ?_⟩⟩
  rw [addr0]
  unfold us at hu
  rw [List.getElem?_map] at hu
  obtain ⟨k, hk, rfl⟩ := Option.map_eq_some_iff.1 hu
  have hj : j < l.length := by
    by_cases h' : j < l.length
    · exact h'
    · rw [List.getElem?_eq_none (by omega)] at hk; cases hk
  rw [h.cell j hj, List.getD_eq_getElem?_getD, hk]; rfl
end Go.Proofs.YtcdmchaehafijaaDoor
/- Layer 5 as plain mathematics: the text of a tree, and that it tells trees apart. -/
namespace Go.Proofs.Ws
open Go
end Go.Proofs.Ws
