/- Layer 6: texts joined: Km Kp Bm Bm2 Bm3 Bm4 Bm6 Aa Ab Sm Kpa Ta Tc Tn. -/
import Derived.Lib.Hide
import Derived.Lib.TrailingZeros
import Derived.Test.YtenbhalnpiahaaaGreatDoorProg
import Derived.WalkKit
import Derived.ProofKit
import Derived.BigQuiet
import Derived.Deep.QuietTactic
import Derived.Laws.BitsAll
import Derived.Laws.BitsAllLaws
import Derived.IntWalk
import Derived.Laws.Bits128
import Derived.Below
import Derived.Laws.OwnMore
import Derived.Deep.AppendLies
import Derived.Deep.Draws
import Derived.OwnWalk
import Derived.LoopTactic
import Derived.Lib.Builder
import Derived.Lib.SlicesS
import Derived.Lib.Split
import Derived.Lib.Join
import Derived.Lib.IndexBytes
/- Layer 5 as plain mathematics: nodes, their form, the error of a list of nodes, the canonical list (no program in sight). -/
namespace Go.Proofs.Ws
open Go
/-- a node: operator, number, event, group, operands -/
structure Nd where
  op : Int
  i : Int
  e : Int
  g : Int
  x : Int
  y : Int
deriving DecidableEq
def usesX (op : Int) : Bool := decide (4 ≤ op) && decide (op ≤ 21)
def usesY (op : Int) : Bool := (decide (5 ≤ op) && decide (op ≤ 8)) || decide (op = 13) || decide (op = 14) || decide (op = 16) || decide (op = 19) || decide (op = 21)
def hasAgent (op : Int) : Bool := decide (op = 9) || decide (op = 10) || decide (op = 14) || decide (op = 15)
def hasGroup (op : Int) : Bool := decide (11 ≤ op) && decide (op ≤ 13)
def known (op : Int) : Bool := decide (1 ≤ op) && decide (op ≤ 21)
/-- the limits of the fields: 0 for a field that is not used -/
def shN (op : Int) : Int := if op = 3 then 8 else if hasAgent op = true then 4 else if op = 17 then 8 else 0
def shE (op : Int) : Int := if op = 17 then 8 else 0
def shG (op : Int) : Int := if hasGroup op = true then 15 else 0
def shO (op : Int) : Int := if usesY op = true then 2 else if usesX op = true then 1 else 0
/-- the operands that are used are earlier nodes, the fields that are not used are 0 -/
def formOk (n : Nd) (at_ : Int) : Bool :=
  (if usesX n.op = true then decide (0 ≤ n.x) && decide (n.x < at_) else decide (n.x = 0)) &&
  (if usesY n.op = true then decide (0 ≤ n.y) && decide (n.y < at_) else decide (n.y = 0)) &&
  (decide (n.op = 3) || hasAgent n.op || decide (n.op = 17) || decide (n.i = 0)) && (decide (n.op = 17) || decide (n.e = 0)) && (hasGroup n.op || decide (n.g = 0))
def rangeOk (n : Nd) : Bool :=
  (shN n.op == 0 || (decide (0 ≤ n.i) && decide (n.i < shN n.op))) && (shE n.op == 0 || (decide (0 ≤ n.e) && decide (n.e < shE n.op))) && (shG n.op == 0 || (decide (1 ≤ n.g) && decide (n.g ≤ shG n.op)))
/-- the error of a node at a place -/
def nodeErr (n : Nd) (at_ : Int) : Int := if known n.op = false then 10 else if formOk n at_ = false then 3 else if rangeOk n = false then 2 else 0
/-- the first error from a place on -/
def errFrom : Nat → List Nd → Int
  | _, [] => 0
  | k, n :: ns => if nodeErr n (k : Int) ≠ 0 then nodeErr n (k : Int) else errFrom (k + 1) ns
def fErr (l : List Nd) : Int := if l.length = 0 then 3 else if 200 < l.length then 8 else errFrom 0 l
/-- the walk's state: the canonical list so far, and for each node its number in it -/
structure Wk where
  out : List Nd
  done : List (Option Nat)
def putNd (out : List Nd) (n : Nd) : Nat × List Nd := if n ∈ out then (out.idxOf n, out) else (out.length, out ++ [n])
def nd0 : Nd := ⟨0, 0, 0, 0, 0, 0⟩
def finW (f : List Nd) : Nat → Nat → Wk → Nat × Wk
  | 0, _, s => (0, s)
  | fuel + 1, i, s =>
    match s.done.getD i none with
    | some k => (k, s)
    | none =>
      let n := f.getD i nd0
      let r1 := if usesX n.op = true then finW f fuel n.x.toNat s else (n.x.toNat, s)
      let r2 := if usesY n.op = true then finW f fuel n.y.toNat r1.2 else (n.y.toNat, r1.2)
      let p := putNd r2.2.out { n with x := (r1.1 : Int), y := (r2.1 : Int) }
      (p.1, ⟨p.2, r2.2.done.set i (some p.1)⟩)
def canonF (f : List Nd) : List Nd := (finW f f.length (f.length - 1) ⟨[], List.replicate f.length none⟩).2.out
def compF (f : List Nd) : List Nd := if fErr f = 0 then canonF f else []
end Go.Proofs.Ws
/- Layer 5 as plain mathematics: the canonical list as a function of the tree. -/
namespace Go.Proofs.Ws
open Go
inductive Tr where
  | leaf (n : Nd)
  | un (n : Nd) (a : Tr)
  | bin (n : Nd) (a b : Tr)
deriving DecidableEq
def bare (n : Nd) : Nd := { n with x := 0, y := 0 }
def treeF (f : List Nd) : Nat → Nat → Tr
  | 0, _ => .leaf nd0
  | fuel + 1, i =>
    let n := f.getD i nd0
    if usesY n.op = true then .bin (bare n) (treeF f fuel n.x.toNat) (treeF f fuel n.y.toNat)
    else if usesX n.op = true then .un (bare n) (treeF f fuel n.x.toNat) else .leaf (bare n)
/-- the tree of the node at a place -/
def treeAt (f : List Nd) (i : Nat) : Tr := treeF f (i + 1) i
def finT : Tr → List Nd → Nat × List Nd
  | .leaf n, o => putNd o n
  | .un n a, o => putNd (finT a o).2 { n with x := ((finT a o).1 : Int) }
  | .bin n a b, o => putNd (finT b (finT a o).2).2 { n with x := ((finT a o).1 : Int), y := ((finT b (finT a o).2).1 : Int) }
/-- the tree lies in the list at a number -/
def rep (o : List Nd) : Nat → Tr → Prop
  | k, .leaf n => o[k]? = some n
  | k, .un n a => ∃ x : Nat, o[k]? = some { n with x := (x : Int) } ∧ rep o x a
  | k, .bin n a b => ∃ x y : Nat, o[k]? = some { n with x := (x : Int), y := (y : Int) } ∧ rep o x a ∧ rep o y b
theorem putNd_old {o : List Nd} (h : o.Nodup) {k : Nat} {n : Nd} (hk : o[k]? = some n) : putNd o n = (k, o) := by
  obtain ⟨hl, he⟩ := List.getElem?_eq_some_iff.1 hk
  have hm : n ∈ o := by rw [← he]; exact List.getElem_mem hl
  unfold putNd
  rw [if_pos hm, ← he, List.Nodup.idxOf_getElem h]
theorem finT_old {o : List Nd} (h : o.Nodup) : ∀ (t : Tr) (k : Nat), rep o k t → finT t o = (k, o)
  | .leaf n, k, hr => putNd_old h hr
  | .un n a, k, ⟨x, hk, ha⟩ => by
    unfold finT
    rw [finT_old h a x ha]
    exact putNd_old h hk
  | .bin n a b, k, ⟨x, y, hk, ha, hb⟩ => by
    unfold finT
    rw [finT_old h a x ha, finT_old h b y hb]
    exact putNd_old h hk
theorem rep_mono {o o' : List Nd} (hp : o <+: o') : ∀ (t : Tr) (k : Nat), rep o k t → rep o' k t
  | .leaf n, k, h => by
    obtain ⟨r, rfl⟩ := hp
    have hl : k < o.length := (List.getElem?_eq_some_iff.1 h).1
    show (o ++ r)[k]? = some n
    rw [List.getElem?_append_left hl]; exact h
  | .un n a, k, ⟨x, hk, ha⟩ => by
    refine ⟨x, ?_, rep_mono hp a x ha⟩
    obtain ⟨r, rfl⟩ := hp
    have hl : k < o.length := (List.getElem?_eq_some_iff.1 hk).1
    rw [List.getElem?_append_left hl]; exact hk
  | .bin n a b, k, ⟨x, y, hk, ha, hb⟩ => by
    refine ⟨x, y, ?_, rep_mono hp a x ha, rep_mono hp b y hb⟩
    obtain ⟨r, rfl⟩ := hp
    have hl : k < o.length := (List.getElem?_eq_some_iff.1 hk).1
    rw [List.getElem?_append_left hl]; exact hk
theorem putNd_pre (o : List Nd) (n : Nd) : o <+: (putNd o n).2 := by
  unfold putNd
  split
  · exact List.prefix_refl _
  · exact List.prefix_append _ _
theorem putNd_at (o : List Nd) (n : Nd) : (putNd o n).2[(putNd o n).1]? = some n := by
  unfold putNd
  split
  · rename_i h
    show o[o.idxOf n]? = some n
    rw [List.getElem?_eq_getElem (List.idxOf_lt_length_of_mem h)]
    simp
  · show (o ++ [n])[o.length]? = some n
    simp
theorem putNd_nodup {o : List Nd} (h : o.Nodup) (n : Nd) : (putNd o n).2.Nodup := by
  unfold putNd
  split
  · exact h
  · rename_i hn
    show (o ++ [n]).Nodup
    rw [List.nodup_append]
    exact ⟨h, by simp, fun a ha b hb e => hn (by rw [List.mem_singleton.1 hb] at e; rw [← e]; exact ha)⟩
theorem putNd_len (o : List Nd) (n : Nd) : (putNd o n).2.length ≤ o.length + 1 ∧ (putNd o n).1 < (putNd o n).2.length := by
  refine ⟨?_, (List.getElem?_eq_some_iff.1 (putNd_at o n)).1⟩
  unfold putNd
  split
  · show o.length ≤ _; omega
  · show (o ++ [n]).length ≤ _; simp
theorem finT_pre : ∀ (t : Tr) (o : List Nd), o <+: (finT t o).2
  | .leaf n, o => putNd_pre o n
  | .un _n a, o => (finT_pre a o).trans (putNd_pre _ _)
  | .bin _n a b, o => ((finT_pre a o).trans (finT_pre b _)).trans (putNd_pre _ _)
theorem finT_nodup : ∀ (t : Tr) {o : List Nd}, o.Nodup → (finT t o).2.Nodup
  | .leaf n, _, h => putNd_nodup h n
  | .un _ a, _, h => putNd_nodup (finT_nodup a h) _
  | .bin _ a b, _, h => putNd_nodup (finT_nodup b (finT_nodup a h)) _
theorem finT_rep : ∀ (t : Tr) (o : List Nd), rep (finT t o).2 (finT t o).1 t
  | .leaf n, o => putNd_at o n
  | .un _n a, o => ⟨_, putNd_at _ _, rep_mono (putNd_pre _ _) a _ (finT_rep a o)⟩
  | .bin _n a b, o => ⟨_, _, putNd_at _ _, rep_mono (putNd_pre _ _) a _ (rep_mono (finT_pre b _) a _ (finT_rep a o)), rep_mono (putNd_pre _ _) b _ (finT_rep b _)⟩
/-- what a tree is made of: the fields that an operator does not use are 0, and it has the operands that it uses -/
def trOk : Tr → Prop
  | .leaf n => usesX n.op = false ∧ usesY n.op = false ∧ bare n = n
  | .un n a => usesX n.op = true ∧ usesY n.op = false ∧ bare n = n ∧ trOk a
  | .bin n a b => usesX n.op = true ∧ usesY n.op = true ∧ bare n = n ∧ trOk a ∧ trOk b
/-- the nodes of a tree, without numbers -/
def trAll (P : Nd → Prop) : Tr → Prop
  | .leaf n => P n
  | .un n a => P n ∧ trAll P a
  | .bin n a b => P n ∧ trAll P a ∧ trAll P b
/-- the operands that are used are earlier nodes, the others are 0 -/
def opsOk (n : Nd) (k : Nat) : Prop :=
  (if usesX n.op = true then 0 ≤ n.x ∧ n.x < (k : Int) else n.x = 0) ∧ (if usesY n.op = true then 0 ≤ n.y ∧ n.y < (k : Int) else n.y = 0)
def opsL (f : List Nd) : Prop := ∀ i, i < f.length → opsOk (f.getD i nd0) i
theorem usesY_X {op : Int} (h : usesY op = true) : usesX op = true := by
  unfold usesY at h
  unfold usesX
  simp only [Bool.or_eq_true, Bool.and_eq_true, decide_eq_true_eq] at h ⊢
  omega
theorem getD_some {o : List Nd} {k : Nat} {n : Nd} (h : o[k]? = some n) : o.getD k nd0 = n := by
  rw [List.getD_eq_getElem?_getD, h]; rfl
theorem bare_x {n : Nd} (h : bare n = n) : n.x = 0 ∧ n.y = 0 := by rw [← h]; exact ⟨rfl, rfl⟩
theorem opsL_put {o : List Nd} (h : opsL o) {n : Nd} (hn : opsOk n o.length) : opsL (putNd o n).2 := by
  unfold putNd
  split
  · exact h
  · intro i hi
    have hi2 : i < o.length + 1 := by simpa using hi
    by_cases e : i = o.length
    · subst e
      show opsOk ((o ++ [n]).getD o.length nd0) o.length
      rw [getD_some (n := n) (by simp)]
      exact hn
    · have hl : i < o.length := by omega
      have : (o ++ [n]).getD i nd0 = o.getD i nd0 := by
        rw [List.getD_eq_getElem?_getD, List.getElem?_append_left hl, ← List.getD_eq_getElem?_getD]
      show opsOk ((o ++ [n]).getD i nd0) i
      rw [this]
      exact h i hl
theorem finT_lt (t : Tr) (o : List Nd) : (finT t o).1 < (finT t o).2.length := by
  cases t
  · exact (putNd_len _ _).2
  · exact (putNd_len _ _).2
  · exact (putNd_len _ _).2
theorem finT_ops : ∀ (t : Tr) {o : List Nd}, trOk t → opsL o → opsL (finT t o).2
  | .leaf n, o, ⟨h1, h2, h3⟩, h => by
    refine opsL_put h ⟨?_, ?_⟩
    · rw [if_neg (by simp [h1])]; exact (bare_x h3).1
    · rw [if_neg (by simp [h2])]; exact (bare_x h3).2
  | .un n a, o, ⟨h1, h2, h3, h4⟩, h => by
    have ha := finT_lt a o
    refine opsL_put (finT_ops a h4 h) ⟨?_, ?_⟩
    · show if usesX n.op = true then _ else _
      rw [if_pos h1]
      exact ⟨Int.natCast_nonneg _, by show ((finT a o).1 : Int) < _; omega⟩
    · show if usesY n.op = true then _ else _
      rw [if_neg (by simp [h2])]; exact (bare_x h3).2
  | .bin n a b, o, ⟨h1, h2, h3, h4, h5⟩, h => by
    have ha := finT_lt a o
    have hb := finT_lt b (finT a o).2
    have hp := (finT_pre b (finT a o).2).length_le
    refine opsL_put (finT_ops b h5 (finT_ops a h4 h)) ⟨?_, ?_⟩
    · show if usesX n.op = true then _ else _
      rw [if_pos h1]
      exact ⟨Int.natCast_nonneg _, by show ((finT a o).1 : Int) < _; omega⟩
    · show if usesY n.op = true then _ else _
      rw [if_pos h2]
      exact ⟨Int.natCast_nonneg _, by show ((finT b (finT a o).2).1 : Int) < _; omega⟩
theorem putNd_all {P : Nd → Prop} {o : List Nd} (h : ∀ n ∈ o, P (bare n)) {n : Nd} (hn : P (bare n)) : ∀ m ∈ (putNd o n).2, P (bare m) := by
  unfold putNd
  split
  · exact h
  · intro m hm
    rcases List.mem_append.1 hm with hm | hm
    · exact h m hm
    · rw [List.mem_singleton.1 hm]; exact hn
theorem finT_all {P : Nd → Prop} : ∀ (t : Tr) {o : List Nd}, trOk t → trAll P t → (∀ n ∈ o, P (bare n)) → ∀ n ∈ (finT t o).2, P (bare n)
  | .leaf n, o, ⟨_, _, h3⟩, hp, h => putNd_all h (by rw [h3]; exact hp)
  | .un n a, o, ⟨_, _, h3, h4⟩, ⟨hp, ha⟩, h => putNd_all (finT_all a h4 ha h) (by show P (bare n); rw [h3]; exact hp)
  | .bin n a b, o, ⟨_, _, h3, h4, h5⟩, ⟨hp, ha, hb⟩, h => putNd_all (finT_all b h5 hb (finT_all a h4 ha h)) (by show P (bare n); rw [h3]; exact hp)
theorem opsOk_x {n : Nd} {k : Nat} (h : opsOk n k) (hu : usesX n.op = true) : 0 ≤ n.x ∧ n.x.toNat < k := by
  have := h.1
  rw [if_pos hu] at this
  omega
theorem opsOk_y {n : Nd} {k : Nat} (h : opsOk n k) (hu : usesY n.op = true) : 0 ≤ n.y ∧ n.y.toNat < k := by
  have := h.2
  rw [if_pos hu] at this
  omega
theorem treeF_fuel {f : List Nd} (hf : opsL f) : ∀ (m i : Nat), i < m → i < f.length → treeF f m i = treeAt f i := by
  have key : ∀ (m m' i : Nat), i < m → i < m' → i < f.length → treeF f m i = treeF f m' i := by
    intro m
    induction m with
    | zero => intro m' i h; omega
    | succ m ih =>
      intro m' i h1 h2 hl
      cases m' with
      | zero => omega
      | succ m' =>
        have ho := hf i hl
        unfold treeF
        simp only
        split
        · rename_i hy
          have hx := opsOk_x ho (usesY_X hy)
          have hy2 := opsOk_y ho hy
          rw [ih m' _ (by omega) (by omega) (by omega), ih m' _ (by omega) (by omega) (by omega)]
        · split
          · rename_i _ hx
            have hx := opsOk_x ho hx
            rw [ih m' _ (by omega) (by omega) (by omega)]
          · rfl
  intro m i h hl
  exact key m (i + 1) i h (by omega) hl
theorem treeAt_eq {f : List Nd} (hf : opsL f) {i : Nat} (hi : i < f.length) :
    treeAt f i = (if usesY (f.getD i nd0).op = true then .bin (bare (f.getD i nd0)) (treeAt f (f.getD i nd0).x.toNat) (treeAt f (f.getD i nd0).y.toNat)
      else if usesX (f.getD i nd0).op = true then .un (bare (f.getD i nd0)) (treeAt f (f.getD i nd0).x.toNat) else .leaf (bare (f.getD i nd0))) := by
  have ho := hf i hi
  show treeF f (i + 1) i = _
  unfold treeF
  simp only
  split
  · rename_i hy
    have hx := opsOk_x ho (usesY_X hy)
    have hy2 := opsOk_y ho hy
    rw [treeF_fuel hf i _ hx.2 (by omega), treeF_fuel hf i _ hy2.2 (by omega)]
  · split
    · rename_i _ hx
      have hx := opsOk_x ho hx
      rw [treeF_fuel hf i _ hx.2 (by omega)]
    · rfl
theorem treeAt_ok {f : List Nd} (hf : opsL f) : ∀ (k i : Nat), i < k → i < f.length → trOk (treeAt f i) := by
  intro k
  induction k with
  | zero => intro i h; omega
  | succ k ih =>
    intro i h hi
    have ho := hf i hi
    rw [treeAt_eq hf hi]
    split
    · rename_i hy
      have hx := opsOk_x ho (usesY_X hy)
      have hy2 := opsOk_y ho hy
      exact ⟨usesY_X hy, hy, rfl, ih _ (by omega) (by omega), ih _ (by omega) (by omega)⟩
    · rename_i hy
      split
      · rename_i hx
        have hx2 := opsOk_x ho hx
        exact ⟨hx, Bool.eq_false_iff.2 hy, rfl, ih _ (by omega) (by omega)⟩
      · rename_i hx
        exact ⟨Bool.eq_false_iff.2 hx, Bool.eq_false_iff.2 hy, rfl⟩
theorem treeAt_all {P : Nd → Prop} {f : List Nd} (hf : opsL f) (hP : ∀ n ∈ f, P (bare n)) : ∀ (k i : Nat), i < k → i < f.length → trAll P (treeAt f i) := by
  intro k
  induction k with
  | zero => intro i h; omega
  | succ k ih =>
    intro i h hi
    have ho := hf i hi
    have hp : P (bare (f.getD i nd0)) := by
      have : f.getD i nd0 = f[i] := by simp [hi]
      rw [this]; exact hP _ (List.getElem_mem hi)
    rw [treeAt_eq hf hi]
    split
    · rename_i hy
      have hx := opsOk_x ho (usesY_X hy)
      have hy2 := opsOk_y ho hy
      exact ⟨hp, ih _ (by omega) (by omega), ih _ (by omega) (by omega)⟩
    · split
      · rename_i _ hx
        have hx2 := opsOk_x ho hx
        exact ⟨hp, ih _ (by omega) (by omega)⟩
      · exact hp
/-- a tree that lies in a list is the tree of the list's node -/
theorem rep_tree {o : List Nd} (ho : opsL o) : ∀ (t : Tr) (k : Nat), trOk t → rep o k t → treeAt o k = t
  | .leaf n, k, ⟨h1, h2, h3⟩, hr => by
    have hl := (List.getElem?_eq_some_iff.1 hr).1
    rw [treeAt_eq ho hl, getD_some hr, if_neg (by simp [h2]), if_neg (by simp [h1]), h3]
  | .un n a, k, ⟨h1, h2, h3, h4⟩, ⟨x, hk, ha⟩ => by
    have hl := (List.getElem?_eq_some_iff.1 hk).1
    have e : bare { n with x := (x : Int) } = n := by show bare n = n; exact h3
    rw [treeAt_eq ho hl, getD_some hk, if_neg (by simp [h2]), if_pos h1, e]
    show Tr.un n (treeAt o x) = _
    rw [rep_tree ho a x h4 ha]
  | .bin n a b, k, ⟨h1, h2, h3, h4, h5⟩, ⟨x, y, hk, ha, hb⟩ => by
    have hl := (List.getElem?_eq_some_iff.1 hk).1
    have e : bare { n with x := (x : Int), y := (y : Int) } = n := by show bare n = n; exact h3
    rw [treeAt_eq ho hl, getD_some hk, if_pos h2, e]
    show Tr.bin n (treeAt o x) (treeAt o y) = _
    rw [rep_tree ho a x h4 ha, rep_tree ho b y h5 hb]
/-- what the walk knows: its list has no equal nodes, and each finished node's tree lies in it -/
structure WkOk (f : List Nd) (s : Wk) : Prop where
  len : s.done.length = f.length
  nodup : s.out.Nodup
  there : ∀ j k, s.done.getD j none = some k → j < f.length ∧ rep s.out k (treeAt f j)
theorem getD_set {l : List (Option Nat)} {i j : Nat} {v : Option Nat} (h : i < l.length) : (l.set i v).getD j none = if i = j then v else l.getD j none := by
  rw [List.getD_eq_getElem?_getD, List.getElem?_set, List.getD_eq_getElem?_getD]
  by_cases e : i = j
  · rw [if_pos e, if_pos e, if_pos h]; rfl
  · rw [if_neg e, if_neg e]
/-- the walk over the list is the walk over the tree -/
theorem finW_tree {f : List Nd} (hf : opsL f) : ∀ (fuel i : Nat) (s : Wk), i < fuel → i < f.length → WkOk f s →
    (finW f fuel i s).1 = (finT (treeAt f i) s.out).1 ∧ (finW f fuel i s).2.out = (finT (treeAt f i) s.out).2 ∧ WkOk f (finW f fuel i s).2 ∧
      (finW f fuel i s).2.done.getD i none = some (finW f fuel i s).1 ∧ (∀ j, i < j → (finW f fuel i s).2.done.getD j none = s.done.getD j none) := by
  intro fuel
  induction fuel with
  | zero => intro i s h; omega
  | succ fuel ih =>
    intro i s h hi hs
    unfold finW
    cases hd : s.done.getD i none with
    | some k =>
      have hr := (hs.there i k hd).2
      simp only
      rw [finT_old hs.nodup _ _ hr]
      exact ⟨rfl, rfl, hs, hd, fun _ _ => trivial⟩
    | none =>
      simp only
      have ho := hf i hi
      rw [treeAt_eq hf hi]
      have fin : ∀ (t : Tr) (r : Nat × Wk) (m : Nd), WkOk f r.2 → finT t s.out = putNd r.2.out m → treeAt f i = t → (∀ j, i ≤ j → r.2.done.getD j none = s.done.getD j none) →
          (putNd r.2.out m).1 = (finT t s.out).1 ∧ (putNd r.2.out m).2 = (finT t s.out).2 ∧ WkOk f ⟨(putNd r.2.out m).2, r.2.done.set i (some (putNd r.2.out m).1)⟩ ∧
          (r.2.done.set i (some (putNd r.2.out m).1)).getD i none = some (putNd r.2.out m).1 ∧ (∀ j, i < j → (r.2.done.set i (some (putNd r.2.out m).1)).getD j none = s.done.getD j none) := by
        intro t r m hw he ht hg
        have hl : i < r.2.done.length := by rw [hw.len]; exact hi
        refine ⟨by rw [he], by rw [he], ⟨by show (r.2.done.set i _).length = _; rw [List.length_set, hw.len], putNd_nodup hw.nodup m, fun j k hj => ?_⟩, by rw [getD_set hl, if_pos rfl], fun j hj => by rw [getD_set hl, if_neg (by omega)]; exact hg j (by omega)⟩
        rw [getD_set hl] at hj
        by_cases e : i = j
        · rw [if_pos e] at hj
          injection hj with hj
          subst e; subst hj
          refine ⟨hi, ?_⟩
          show rep (putNd r.2.out m).2 _ _
          rw [ht, ← he]
          exact finT_rep t s.out
        · rw [if_neg e] at hj
          obtain ⟨h1, h2⟩ := hw.there j k hj
          exact ⟨h1, rep_mono (putNd_pre _ _) _ _ h2⟩
      by_cases hy : usesY (f.getD i nd0).op = true
      · have hx := usesY_X hy
        have ox := opsOk_x ho hx
        have oy := opsOk_y ho hy
        rw [if_pos hx, if_pos hy, if_pos hy]
        obtain ⟨a1, a2, a3, a4, a5⟩ := ih (f.getD i nd0).x.toNat s (by omega) (by omega) hs
        obtain ⟨b1, b2, b3, b4, b5⟩ := ih (f.getD i nd0).y.toNat (finW f fuel (f.getD i nd0).x.toNat s).2 (by omega) (by omega) a3
        refine fin (.bin (bare (f.getD i nd0)) (treeAt f (f.getD i nd0).x.toNat) (treeAt f (f.getD i nd0).y.toNat)) (finW f fuel (f.getD i nd0).y.toNat (finW f fuel (f.getD i nd0).x.toNat s).2) _ b3 ?_ (by rw [treeAt_eq hf hi, if_pos hy]) (fun j hj => by rw [b5 j (by omega), a5 j (by omega)])
        rw [b2, b1, a2, a1]
        rfl
      · rw [if_neg hy, if_neg hy]
        have e2 : (f.getD i nd0).y = 0 := by have := ho.2; rw [if_neg hy] at this; exact this
        by_cases hx : usesX (f.getD i nd0).op = true
        · have ox := opsOk_x ho hx
          rw [if_pos hx, if_pos hx]
          obtain ⟨a1, a2, a3, a4, a5⟩ := ih (f.getD i nd0).x.toNat s (by omega) (by omega) hs
          refine fin (.un (bare (f.getD i nd0)) (treeAt f (f.getD i nd0).x.toNat)) (finW f fuel (f.getD i nd0).x.toNat s) _ a3 ?_ (by rw [treeAt_eq hf hi, if_neg hy, if_pos hx]) (fun j hj => by rw [a5 j (by omega)])
          rw [a2, a1]
          show putNd _ { bare (f.getD i nd0) with x := _ } = putNd _ { f.getD i nd0 with x := _, y := _ }
          congr 1
          show Nd.mk _ _ _ _ _ 0 = Nd.mk _ _ _ _ _ (((f.getD i nd0).y.toNat : Nat) : Int)
          rw [e2]; rfl
        · have e1 : (f.getD i nd0).x = 0 := by have := ho.1; rw [if_neg hx] at this; exact this
          rw [if_neg hx, if_neg hx]
          refine fin (.leaf (bare (f.getD i nd0))) ((f.getD i nd0).x.toNat, s) _ hs ?_ (by rw [treeAt_eq hf hi, if_neg hy, if_neg hx]) (fun j hj => rfl)
          show putNd _ (bare _) = putNd _ _
          congr 1
          show Nd.mk _ _ _ _ 0 0 = Nd.mk _ _ _ _ (((f.getD i nd0).x.toNat : Nat) : Int) (((f.getD i nd0).y.toNat : Nat) : Int)
          rw [e1, e2]; rfl
/-- the canonical list of a tree -/
def canT (t : Tr) : List Nd := (finT t []).2
theorem wk0 (f : List Nd) : WkOk f ⟨[], List.replicate f.length none⟩ := by
  refine ⟨by simp, List.nodup_nil, fun j k h => ?_⟩
  have h : (List.replicate f.length (none : Option Nat)).getD j none = some k := h
  rw [List.getD_eq_getElem?_getD, List.getElem?_replicate] at h
  split at h <;> cases h
theorem walk_tree {f : List Nd} (hf : opsL f) {fuel i : Nat} (h : i < fuel) (hi : i < f.length) : (finW f fuel i ⟨[], List.replicate f.length none⟩).2.out = canT (treeAt f i) :=
  (finW_tree hf fuel i _ h hi (wk0 f)).2.1
theorem canonF_tree {f : List Nd} (hf : opsL f) (hn : f ≠ []) : canonF f = canT (treeAt f (f.length - 1)) := by
  have : f.length ≠ 0 := by simpa using hn
  exact walk_tree hf (by omega) (by omega)
theorem take_getD {f : List Nd} {m j : Nat} (h : j < m) : (f.take m).getD j nd0 = f.getD j nd0 := by
  rw [List.getD_eq_getElem?_getD, List.getElem?_take, if_pos h, List.getD_eq_getElem?_getD]
theorem opsL_take {f : List Nd} (hf : opsL f) (m : Nat) : opsL (f.take m) := by
  intro i hi
  rw [List.length_take] at hi
  rw [take_getD (by omega)]
  exact hf i (by omega)
theorem treeAt_take {f : List Nd} (hf : opsL f) (m : Nat) : ∀ (k i : Nat), i < k → i < m → i < f.length → treeAt (f.take m) i = treeAt f i := by
  intro k
  induction k with
  | zero => intro i h; omega
  | succ k ih =>
    intro i h hm hi
    have ho := hf i hi
    rw [treeAt_eq (opsL_take hf m) (by rw [List.length_take]; omega), treeAt_eq hf hi, take_getD hm]
    split
    · rename_i hy
      have hx := opsOk_x ho (usesY_X hy)
      have hy2 := opsOk_y ho hy
      rw [ih _ (by omega) (by omega) (by omega), ih _ (by omega) (by omega) (by omega)]
    · split
      · rename_i _ hx
        have hx2 := opsOk_x ho hx
        rw [ih _ (by omega) (by omega) (by omega)]
      · rfl
/-- the canonical list up to a node is that of its tree, in the whole list and in the list cut behind it -/
theorem canon_take {f : List Nd} (hf : opsL f) {i : Nat} (hi : i < f.length) : canonF (f.take (i + 1)) = canT (treeAt f i) := by
  have hl : (f.take (i + 1)).length = i + 1 := by rw [List.length_take]; omega
  rw [canonF_tree (opsL_take hf _) (by intro e; rw [e] at hl; simp at hl), hl, show i + 1 - 1 = i from rfl, treeAt_take hf _ (i + 1) i (by omega) (by omega) hi]
theorem canT_ops {t : Tr} (h : trOk t) : opsL (canT t) := finT_ops t h (fun i hi => absurd hi (by simp))
theorem putNd_lastOr (o : List Nd) (n : Nd) : n ∈ o ∨ (putNd o n).1 = (putNd o n).2.length - 1 := by
  unfold putNd
  split
  · rename_i h; exact .inl h
  · right; show o.length = (o ++ [n]).length - 1; simp
end Go.Proofs.Ws
namespace Go.Proofs.Ws
open Go

/-- the lowest world -/
def low (s : Nat) : Nat := Lib.ctz 64 s

end Go.Proofs.Ws
/- How many bits are set: the arithmetic of the word-parallel count, byte by byte (no program in sight). -/
namespace Go.Proofs.Ws

def cnt : Nat → Nat → Nat
  | 0, _ => 0
  | k + 1, s => s % 2 + cnt k (s / 2)

def M (c : Nat) : Nat → Nat
  | 0 => 0
  | n + 1 => c + 256 * M c n

def g1 (y : Nat) : Nat := (y / 2 &&& 85) + (y &&& 85)
def g2 (y : Nat) : Nat := (y / 4 &&& 51) + (y &&& 51)
def g3 (y : Nat) : Nat := (y / 16 + y) &&& 15
theorem t1 : ∀ y : Fin 256, ∀ c : Fin 2, (y.1 / 2 + 128 * c.1) &&& 85 = y.1 / 2 &&& 85 := by decide +kernel
theorem t2 : ∀ y : Fin 256, ∀ c : Fin 4, (y.1 / 4 + 64 * c.1) &&& 51 = y.1 / 4 &&& 51 := by decide +kernel
theorem b1 : ∀ y : Fin 256, g1 y.1 < 256 := by decide +kernel
theorem b2 : ∀ y : Fin 256, g2 (g1 y.1) % 16 ≤ 4 ∧ g2 (g1 y.1) / 16 ≤ 4 ∧ g2 (g1 y.1) < 256 := by decide +kernel
theorem b3 : ∀ y : Fin 256, g3 (g2 (g1 y.1)) = cnt 8 y.1 ∧ cnt 8 y.1 ≤ 8 := by decide +kernel

theorem fin_len (x y : Nat) (hx : x < 4294967296) (hy : y < 268435456) : (x + 4294967296 * y) / 4294967296 = y ∧ x + 4294967296 * y < 18446744073709551616 ∧ x + 4294967296 * y + y < 9223372036854775808 ∧ (x + 4294967296 * y + y) % 128 = (x + y) % 128 := by
  refine ⟨?_, ?_, ?_, ?_⟩ <;> omega
theorem fin_mod (d0 d4 u v : Nat) (h : d0 + d4 ≤ 64) : (d0 + 256 * u + (d4 + 256 * v)) % 128 = d0 + d4 := by omega
theorem two_step (c0 c1 r : Nat) (h0 : c0 ≤ 16) (h1 : c1 ≤ 16) : (c0 + 256 * (c1 + 256 * r)) / 65536 = r := by omega
theorem one_step (c0 r : Nat) (h0 : c0 ≤ 8) : (c0 + 256 * r) / 256 = r := by omega

/-- the last three steps over eight small bytes -/
theorem tail (c0 c1 c2 c3 c4 c5 c6 c7 a3 : Nat) (l0 : c0 ≤ 8) (l1 : c1 ≤ 8) (l2 : c2 ≤ 8) (l3 : c3 ≤ 8) (l4 : c4 ≤ 8) (l5 : c5 ≤ 8) (l6 : c6 ≤ 8) (l7 : c7 ≤ 8)
    (e : a3 = c0 + 256 * (c1 + 256 * (c2 + 256 * (c3 + 256 * (c4 + 256 * (c5 + 256 * (c6 + 256 * c7))))))) :
    ∃ a4 a5 a6, a4 = a3 + a3 / 256 ∧ a5 = a4 + a4 / 65536 ∧ a6 = a5 + a5 / 4294967296 ∧ a3 < 18446744073709551616 ∧ a4 < 18446744073709551616 ∧ a5 < 18446744073709551616 ∧ a6 < 9223372036854775808 ∧ a6 % 128 = c0 + (c1 + (c2 + (c3 + (c4 + (c5 + (c6 + c7)))))) := by
  have q3 : a3 / 256 = c1 + 256 * (c2 + 256 * (c3 + 256 * (c4 + 256 * (c5 + 256 * (c6 + 256 * c7))))) := by rw [e]; exact one_step _ _ l0
  have p4 : a3 + a3 / 256 = (c0 + c1) + 256 * ((c1 + c2) + 256 * ((c2 + c3) + 256 * ((c3 + c4) + 256 * ((c4 + c5) + 256 * ((c5 + c6) + 256 * ((c6 + c7) + 256 * c7)))))) := by rw [q3, e]; clear q3 e; omega
  have h3 : a3 < 18446744073709551616 := by rw [e]; clear e q3 p4; omega
  have h4 : a3 + a3 / 256 < 18446744073709551616 := by rw [p4]; clear e q3 p4 h3; omega
  clear e q3
  have q4 : (a3 + a3 / 256) / 65536 = (c2 + c3) + 256 * ((c3 + c4) + 256 * ((c4 + c5) + 256 * ((c5 + c6) + 256 * ((c6 + c7) + 256 * c7)))) := by rw [p4]; exact two_step _ _ _ (by omega) (by omega)
  have p5 : (a3 + a3 / 256) + (a3 + a3 / 256) / 65536 = (c0 + c1 + c2 + c3 + 256 * (c1 + c2 + c3 + c4 + 256 * (c2 + c3 + c4 + c5 + 256 * (c3 + c4 + c5 + c6)))) + 4294967296 * (c4 + c5 + c6 + c7 + 256 * (c5 + c6 + c7 + 256 * (c6 + c7 + 256 * c7))) := by rw [q4, p4]; clear q4 p4 h3 h4; omega
  obtain ⟨f1, f2, f3, f4⟩ := fin_len (c0 + c1 + c2 + c3 + 256 * (c1 + c2 + c3 + c4 + 256 * (c2 + c3 + c4 + c5 + 256 * (c3 + c4 + c5 + c6)))) (c4 + c5 + c6 + c7 + 256 * (c5 + c6 + c7 + 256 * (c6 + c7 + 256 * c7))) (by clear p4 p5 q4 h3 h4; omega) (by clear p4 p5 q4 h3 h4; omega)
  rw [fin_mod _ _ _ _ (by clear p4 p5 q4 h3 h4 f1 f2 f3 f4; omega)] at f4
  rw [← p5] at f1 f2
  refine ⟨_, _, _, rfl, rfl, rfl, h3, h4, f2, ?_, ?_⟩
  · rw [f1, p5]; exact f3
  · rw [f1, p5, f4]; clear p4 p5 q4 h3 h4 f1 f2 f3 f4; omega

end Go.Proofs.Ws
/- The subsets of a set by their numbers; the next set of the same size: the arithmetic (no program in sight). -/
namespace Go.Proofs.Ws

end Go.Proofs.Ws
/- The next set of the same size, by arithmetic, and by the lowest world that can move up (no program in sight). -/
namespace Go.Proofs.Ws

end Go.Proofs.Ws
/- The subsets ascend, lie in the set, and end with it (no program in sight). -/
namespace Go.Proofs.Ws

/-- a list of worlds that ascends from b on -/
def Asc : Nat → List Nat → Prop
  | _, [] => True
  | b, w :: l => b ≤ w ∧ Asc (w + 1) l

theorem Asc.mono {b c : Nat} : ∀ {l : List Nat}, Asc c l → b ≤ c → Asc b l
  | [], _, _ => trivial
  | _ :: _, h, hb => ⟨Nat.le_trans hb h.1, h.2⟩

end Go.Proofs.Ws
/- Words and memory: the set of one world and of all, what a slice reads as, the table of trailing zeros, TrailingZeros64. -/
namespace Go.Proofs.YtenbhalnpiahaaaGreatDoor
open Go.RowKit Go.Proofs.Ws
theorem ret_bool {a b : Bool} (h : a = b) : Ending.returned (.bool a) = .returned (.bool b) := by rw [h]
theorem ret_i64 {a b : Int} (h : a = b) : Ending.returned (.int .i64 a) = .returned (.int .i64 b) := by rw [h]
/-- the set of one world -/
def p2 (k : Nat) : Nat := 2 ^ k
theorem block_of_add (a : Addr) (n : Nat) : (a.add n).block = a.block := by unfold Addr.add; split <;> rfl
theorem add_of_add (a : Addr) (i j : Nat) : (a.add i).add j = a.add (i + j) := by
  unfold Addr.add
  by_cases hi : i = 0 <;> by_cases hj : j = 0 <;> simp [hi, hj, Nat.add_assoc]
def Reads (w : World) (B size : Nat) (A : Option Addr) (n : Nat) (xs : List Value) : Prop :=
  xs.length = n * size ∧ (0 < n → ∃ ad, A = some ad ∧ ad.block < B ∧ ∀ j u, xs[j]? = some u → w.cell? (ad.add j) = some u)
section
variable {w w' : World} {B B' size n : Nat} {A : Option Addr} {xs : List Value}
theorem Reads.none_ : Reads w B size A 0 [] := ⟨by simp, fun h => absurd h (by omega)⟩
theorem Reads.at_ {k : Nat} (h : Reads w B 1 A n xs) (hk : k < n) : ∃ ad u, A = some ad ∧ ad.block < B ∧ xs[k]? = some u ∧ w.cell? (ad.add k) = some u := by
  obtain ⟨ad, e, hb, hc⟩ := h.2 (by omega)
  have hl : k < xs.length := by have := h.1; omega
  exact ⟨ad, xs[k], e, hb, List.getElem?_eq_getElem hl, hc k _ (List.getElem?_eq_getElem hl)⟩
theorem Reads.keep (h : Reads w B size A n xs) (hk : ∀ p : Addr, p.block < B → w'.cell? p = w.cell? p) : Reads w' B size A n xs :=
  ⟨h.1, fun hn => by
    obtain ⟨ad, e, hb, hc⟩ := h.2 hn
    exact ⟨ad, e, hb, fun j u hu => (hk _ (by rw [block_of_add]; exact hb)).trans (hc j u hu)⟩⟩
theorem Reads.more (h : Reads w B size A n xs) (hB : B ≤ B') : Reads w B' size A n xs :=
  ⟨h.1, fun hn => by
    obtain ⟨ad, e, hb, hc⟩ := h.2 hn
    exact ⟨ad, e, by omega, hc⟩⟩
theorem Reads.below (h : Reads w B size A n xs) (hb : Below B w w') : Reads w' B size A n xs := h.keep fun _ hp => hb.cell hp
theorem Reads.drew (h : Reads w B size A n xs) : Reads w.drew B size A n xs := h
theorem Reads.drewN (h : Reads w B size A n xs) (k : Nat) : Reads (w.drewN k) B size A n xs := h
theorem Reads.alloc (h : Reads w B size A n xs) (hB : B ≤ w.heap.size) (o : Obj) : Reads (w.alloc o) B size A n xs := h.keep fun p hp => World.cell?_alloc_lt w o p (by omega)
theorem Reads.setCell (h : Reads w B size A n xs) {p : Addr} (hB : B ≤ p.block) (u : Value) : Reads (w.setCell p u) B size A n xs :=
  h.keep fun q hq => World.cell?_setCell_other w p q u (fun e => by subst e; omega)
theorem Reads.grown (h : Reads w B size A n xs) {row : Option Nat} (hg : w.grownBy w' row) (hB : B ≤ w.heap.size) (hr : ∀ g, row = some g → B ≤ g) : Reads w' B size A n xs :=
  h.keep fun p hp => World.cell?_of_block (hg.block p.block (by omega) (fun e => by have := hr _ e.symm; omega))
theorem Reads.cut (h : Reads w B size A n xs) {k cap : Nat} (hk : k ≤ n) (hc : n ≤ cap) :
    Reads w B size (if cap = k then A else A.map (·.add (k * size))) (n - k) (xs.drop (k * size)) := by
  refine ⟨by rw [List.length_drop, h.1, Nat.sub_mul], fun hn => ?_⟩
  obtain ⟨ad, rfl, hb, hcell⟩ := h.2 (by omega)
  rw [if_neg (by omega)]
  refine ⟨ad.add (k * size), rfl, by rw [block_of_add]; exact hb, fun j u hu => ?_⟩
  rw [add_of_add]
  exact hcell _ u (by rw [← hu, List.getElem?_drop])
theorem Reads.of_own {base : Nat} {e : TypeId} {c : Nat} (h : w.ownsRow base e size (.slice A n c) n xs) : Reads w w.heap.size size A n xs := by
  refine ⟨h.1, fun hn => ?_⟩
  obtain ⟨g, cap, hv, _, hlt⟩ := h.form hn
  have hA : A = some ⟨g, 0, none⟩ := by injection hv
  subst hA
  exact ⟨_, rfl, hlt, h.cells (g := g) rfl⟩
end
/-- the table of trailing zeros lies in its variable (block 0) -/
def iv (l : List Nat) : List Value := l.map (fun k : Nat => Value.int .i64 (k : Int))
theorem below_drewN {B : Nat} {a w : World} (h : Below B a w) (n : Nat) : Below B a (w.drewN n) := h.trans ⟨rfl, rfl, rfl, Nat.le_refl _, fun _ _ => rfl⟩
end Go.Proofs.YtenbhalnpiahaaaGreatDoor
/- Lists of words in cells, and memory of the call's own (no function of the program is named). -/
namespace Go.Proofs.YtenbhalnpiahaaaGreatDoor
open Go.RowKit Go.Proofs.Ws
theorem quiet_same {P : Program} {f : FuncId} {args : Array Value} {X : Nat → World} {n : Nat} {v : Value} (h : Calls P f args (X n) fun e w' => e = .returned v ∧ X n = w') :
    Calls P f args (X n) fun e w'' => e = .returned v ∧ ∃ m, w'' = X m := h.mono fun _ _ ⟨he, hm⟩ => ⟨he, n, hm.symm⟩
/-- a list of words in cells -/
def us (l : List Nat) : List Value := l.map (fun k : Nat => Value.int .u64 (k : Int))
theorem us_length (l : List Nat) : (us l).length = l.length := by simp [us]
/-- each is a word -/
def Words (l : List Nat) : Prop := ∀ x ∈ l, x < 18446744073709551616
/-- block g holds just these words -/
def HoldsU (w : World) (g : Nat) (l : List Nat) : Prop := w.heap[g]? = some (.cells (us l).toArray 122 (0, 0))
theorem Tryz.infoU : (Tryz.prog.info? 122).map (fun i => (i.zero, i.size, i.bytes)) = some (some (.int .u64 0), 1, 8) := by kernel_rfl
theorem HoldsU.cell {w : World} {g : Nat} {l : List Nat} (h : HoldsU w g l) (k : Nat) (hk : k < l.length) : w.cell? ⟨g, k, none⟩ = some (.int .u64 ((l.getD k 0 : Nat) : Int)) := by
  rw [Lib.cell_of_heap h, List.getElem?_toArray]
  unfold us
  rw [List.getElem?_map, List.getElem?_eq_getElem hk, List.getD_eq_getElem?_getD, List.getElem?_eq_getElem hk]
  rfl
theorem HoldsU.free {w : World} {g : Nat} {l : List Nat} (h : HoldsU w g l) (k : Nat) : w.frozen? ⟨g, k, none⟩ = false := Lib.frozen_of_heap h k
theorem HoldsU.put {w : World} {g : Nat} {l : List Nat} (h : HoldsU w g l) (k x : Nat) : HoldsU (w.setCell ⟨g, k, none⟩ (.int .u64 (x : Int))) g (l.set k x) := by
  unfold HoldsU at h ⊢
  have e : (us (l.set k x)).toArray = (us l).toArray.setIfInBounds k (.int .u64 (x : Int)) := by
    unfold us
    rw [List.map_set]
    simp
  rw [e]
  simp [World.setCell, Array.getElem?_modify, h]
theorem HoldsU.far {w : World} {g g' : Nat} {l : List Nat} (h : HoldsU w g l) (hne : g ≠ g') (k : Nat) (u : Value) : HoldsU (w.setCell ⟨g', k, none⟩ u) g l :=
  (Below.heap_setCell w ⟨g', k, none⟩ u g hne).trans h
theorem HoldsU.made (w : World) (l : List Nat) : HoldsU (w.alloc (.cells (us l).toArray 122)) w.heap.size l := heap_alloc_new w _
theorem HoldsU.lt {w : World} {g : Nat} {l : List Nat} (h : HoldsU w g l) : g < w.heap.size := (Array.getElem?_eq_some_iff.1 h).1
theorem HoldsU.alloc {w : World} {g : Nat} {l : List Nat} (h : HoldsU w g l) (o : Obj) : HoldsU (w.alloc o) g l := (Below.heap_alloc w o g h.lt).trans h
theorem addr0 (g j : Nat) : (⟨g, 0, none⟩ : Addr).add j = ⟨g, j, none⟩ := by
  unfold Addr.add
  split
  · subst_vars; rfl
  · simp
theorem HoldsU.reads {w : World} {g : Nat} {l : List Nat} (h : HoldsU w g l) : Reads w w.heap.size 1 (some ⟨g, 0, none⟩) l.length (us l) := by
  refine ⟨by rw [us_length]; omega, fun _ => ⟨_, rfl, h.lt, fun j u hu => ?_⟩⟩
  rw [addr0]
  unfold us at hu
  rw [List.getElem?_map] at hu
  obtain ⟨k, hk, rfl⟩ := Option.map_eq_some_iff.1 hu
  have hj : j < l.length := by
    by_cases h' : j < l.length
    · exact h'
    · rw [List.getElem?_eq_none (by omega)] at hk; cases hk
  rw [h.cell j hj, List.getD_eq_getElem?_getD, hk]; rfl
theorem HoldsU.below {w w' : World} {B g : Nat} {l : List Nat} (h : HoldsU w g l) (hb : Below B w w') (hg : g < B) : HoldsU w' g l := (hb.block g hg).trans h
/-- whatever lay below B, block g apart, lies as it lay -/
structure BelowBut (B g : Nat) (w w' : World) : Prop where
  os : w'.os = w.os
  tape : w'.tape = w.tape
  output : w'.output = w.output
  size : w.heap.size ≤ w'.heap.size
  block : ∀ k, k < B → k ≠ g → w'.heap[k]? = w.heap[k]?
theorem BelowBut.refl (B g : Nat) (w : World) : BelowBut B g w w := ⟨rfl, rfl, rfl, Nat.le_refl _, fun _ _ _ => rfl⟩
theorem BelowBut.of {B : Nat} {w w' : World} (h : Below B w w') (g : Nat) : BelowBut B g w w' := ⟨h.os, h.tape, h.output, h.size, fun k hk _ => h.block k hk⟩
theorem BelowBut.trans {B g : Nat} {a b c : World} (h : BelowBut B g a b) (k : BelowBut B g b c) : BelowBut B g a c :=
  ⟨k.os.trans h.os, k.tape.trans h.tape, k.output.trans h.output, Nat.le_trans h.size k.size, fun j hj hg => (k.block j hj hg).trans (h.block j hj hg)⟩
theorem BelowBut.setCell {B g : Nat} {a w : World} (h : BelowBut B g a w) (k : Nat) (u : Value) : BelowBut B g a (w.setCell ⟨g, k, none⟩ u) := by
  have e : BelowBut B g w (w.setCell ⟨g, k, none⟩ u) := by
    have b := (Below.refl 0 w).setCell (p := ⟨g, k, none⟩) (Nat.zero_le _) u
    exact ⟨b.os, b.tape, b.output, b.size, fun j _ hg => Below.heap_setCell w ⟨g, k, none⟩ u j hg⟩
  exact h.trans e
theorem BelowBut.drew {B g : Nat} {a w : World} (h : BelowBut B g a w) : BelowBut B g a w.drew := ⟨h.os, h.tape, h.output, h.size, h.block⟩
theorem BelowBut.mono {B B' g : Nat} {w w' : World} (h : BelowBut B g w w') (hB : B' ≤ B) : BelowBut B' g w w' := ⟨h.os, h.tape, h.output, h.size, fun k hk hg => h.block k (Nat.lt_of_lt_of_le hk hB) hg⟩
/-- what lay below g too lies as it lay -/
theorem BelowBut.below {B g : Nat} {w w' : World} (h : BelowBut B g w w') (hg : B ≤ g) : Below B w w' := ⟨h.os, h.tape, h.output, h.size, fun k hk => h.block k hk (by omega)⟩
/-- block g holds these words, and maybe more behind them -/
def HoldsP (w : World) (g : Nat) (l : List Nat) : Prop := ∃ pad : List Value, w.heap[g]? = some (.cells (us l ++ pad).toArray 122 (0, 0))
theorem HoldsU.pad {w : World} {g : Nat} {l : List Nat} (h : HoldsU w g l) : HoldsP w g l := ⟨[], by rw [List.append_nil]; exact h⟩
theorem HoldsP.cell {w : World} {g : Nat} {l : List Nat} (h : HoldsP w g l) (k : Nat) (hk : k < l.length) : w.cell? ⟨g, k, none⟩ = some (.int .u64 ((l.getD k 0 : Nat) : Int)) := by
  obtain ⟨pad, h⟩ := h
  rw [Lib.cell_of_heap h, List.getElem?_toArray, List.getElem?_append_left (by rw [us_length]; exact hk)]
  unfold us
  rw [List.getElem?_map, List.getElem?_eq_getElem hk, List.getD_eq_getElem?_getD, List.getElem?_eq_getElem hk]
  rfl
theorem HoldsP.free {w : World} {g : Nat} {l : List Nat} (h : HoldsP w g l) (k : Nat) : w.frozen? ⟨g, k, none⟩ = false := by
  obtain ⟨pad, h⟩ := h
  exact Lib.frozen_of_heap h k
theorem HoldsP.put {w : World} {g : Nat} {l : List Nat} (h : HoldsP w g l) (k x : Nat) : HoldsP (w.setCell ⟨g, k, none⟩ (.int .u64 (x : Int))) g (l.set k x) := by
  obtain ⟨pad, h⟩ := h
  by_cases hk : k < l.length
  · refine ⟨pad, ?_⟩
    have e : (us (l.set k x) ++ pad).toArray = (us l ++ pad).toArray.setIfInBounds k (.int .u64 (x : Int)) := by
      unfold us
      rw [List.map_set]
      simp [hk]
    rw [e]
    simp [World.setCell, Array.getElem?_modify, h]
  · refine ⟨pad.set (k - l.length) (.int .u64 (x : Int)), ?_⟩
    have e : (us (l.set k x) ++ pad.set (k - l.length) (.int .u64 (x : Int))).toArray = (us l ++ pad).toArray.setIfInBounds k (.int .u64 (x : Int)) := by
      rw [List.set_eq_of_length_le (by omega)]
      simp [List.set_append, us_length, hk]
    rw [e]
    simp [World.setCell, Array.getElem?_modify, h]
theorem HoldsP.lt {w : World} {g : Nat} {l : List Nat} (h : HoldsP w g l) : g < w.heap.size := by
  obtain ⟨pad, h⟩ := h
  exact (Array.getElem?_eq_some_iff.1 h).1
theorem HoldsP.below {w w' : World} {B g : Nat} {l : List Nat} (h : HoldsP w g l) (hb : Below B w w') (hg : g < B) : HoldsP w' g l := by
  obtain ⟨pad, h⟩ := h
  exact ⟨pad, (hb.block g hg).trans h⟩
theorem HoldsP.reads {w : World} {g : Nat} {l : List Nat} (h : HoldsP w g l) : Reads w w.heap.size 1 (some ⟨g, 0, none⟩) l.length (us l) := by
  refine ⟨by rw [us_length]; omega, fun _ => ⟨_, rfl, h.lt, fun j u hu => ?_⟩⟩
  rw [addr0]
  unfold us at hu
  rw [List.getElem?_map] at hu
  obtain ⟨k, hk, rfl⟩ := Option.map_eq_some_iff.1 hu
  have hj : j < l.length := by
    by_cases h' : j < l.length
    · exact h'
    · rw [List.getElem?_eq_none (by omega)] at hk; cases hk
  rw [h.cell j hj, List.getD_eq_getElem?_getD, hk]; rfl
end Go.Proofs.YtenbhalnpiahaaaGreatDoor
/- Layer 4 as plain mathematics: names, the error of a signature, groups, texts of groups (no program in sight). -/
namespace Go.Proofs.Ws
open Go
/-- small letters, digits, what a name is made of -/
def lowN (m : Nat) : Bool := decide (97 ≤ m) && decide (m ≤ 122)
def digN (m : Nat) : Bool := decide (48 ≤ m) && decide (m ≤ 57)
def chN (m : Nat) : Bool := lowN m || digN m || decide (m = 95)
def nameL (l : List UInt8) : Bool := decide (1 ≤ l.length) && decide (l.length ≤ 8) && lowN (l.getD 0 0).toNat && l.all (fun c => chN c.toNat)
def nameV (x : ByteArray) : Bool := nameL x.data.toList
/-- the reserved words -/
def resW : List ByteArray := [⟨#[116, 114, 117, 101]⟩, ⟨#[102, 97, 108, 115, 101]⟩, ⟨#[110, 101, 120, 116]⟩, ⟨#[112, 114, 101, 118]⟩, ⟨#[117, 110, 116, 105, 108]⟩, ⟨#[115, 105, 110, 99, 101]⟩, ⟨#[100, 111]⟩]
def resV (x : ByteArray) : Bool := Lib.containsS resW x
/-- the first fault of a row of names, behind those that were seen -/
def ckFrom (seen : List ByteArray) : List ByteArray → Int
  | [] => 0
  | x :: xs => if nameV x = false then 3 else if resV x = true ∨ Lib.containsS seen x = true then 5 else ckFrom (seen ++ [x]) xs
/-- the error of a signature -/
def sigErr (A F X : List ByteArray) : Int := if A.length ≤ 4 ∧ F.length ≤ 8 ∧ X.length ≤ 8 then ckFrom [] (A ++ (F ++ X)) else 8
theorem ckFrom_ok (xs : List ByteArray) : ∀ seen, ckFrom seen xs = 0 → (∀ x ∈ xs, nameV x = true ∧ resV x = false ∧ x ∉ seen) ∧ xs.Nodup := by
  induction xs with
  | nil => intro seen _; exact ⟨by simp, List.nodup_nil⟩
  | cons x xs ih =>
    intro seen h
    rw [ckFrom] at h
    by_cases h1 : nameV x = false
    · rw [if_pos h1] at h; cases h
    · rw [if_neg h1] at h
      by_cases h2 : resV x = true ∨ Lib.containsS seen x = true
      · rw [if_pos h2] at h; cases h
      · rw [if_neg h2] at h
        obtain ⟨h3, h4⟩ := ih _ h
        refine ⟨fun y hy => ?_, List.nodup_cons.2 ⟨fun hx => (h3 x hx).2.2 (by simp), h4⟩⟩
        rcases List.mem_cons.1 hy with rfl | hy
        · exact ⟨by simpa using h1, by simpa using fun e => h2 (.inl e), fun hs => h2 (.inr ((Lib.containsS_iff _ _).2 hs))⟩
        · exact ⟨(h3 y hy).1, (h3 y hy).2.1, fun hs => (h3 y hy).2.2 (by simp [hs])⟩
theorem sigErr_ok {A F X : List ByteArray} (h : sigErr A F X = 0) : A.length ≤ 4 ∧ F.length ≤ 8 ∧ X.length ≤ 8 ∧ (∀ x ∈ A ++ (F ++ X), nameV x = true ∧ resV x = false) ∧ (A ++ (F ++ X)).Nodup := by
  unfold sigErr at h
  split at h
  · rename_i h1
    obtain ⟨h2, h3⟩ := ckFrom_ok _ _ h
    exact ⟨h1.1, h1.2.1, h1.2.2, fun x hx => ⟨(h2 x hx).1, (h2 x hx).2.1⟩, h3⟩
  · cases h
/-- the number of a name -/
def numV (A F X l : List ByteArray) (x : ByteArray) : Int := if sigErr A F X = 0 then Lib.idxOfS l x else -1
theorem idx_miss {l : List ByteArray} {x : ByteArray} (h : x ∉ l) : Lib.idxOfS l x = -1 := by
  have := Lib.idxOfS_miss l l.length x (fun j hj e => h (by
    rw [List.getD_eq_getElem?_getD, List.getElem?_eq_getElem hj] at e
    exact e ▸ List.getElem_mem hj))
  rwa [List.take_length] at this
theorem idx_at {l : List ByteArray} (hn : l.Nodup) {k : Nat} (hk : k < l.length) : Lib.idxOfS l (l.getD k ByteArray.empty) = k := by
  have := Lib.idxOfS_hit l l.length k _ hk (Nat.le_refl _) rfl (fun j hj e => by
    rw [List.getD_eq_getElem?_getD, List.getD_eq_getElem?_getD, List.getElem?_eq_getElem hk, List.getElem?_eq_getElem (by omega)] at e
    simp only [Option.getD_some] at e
    have := (List.getElem_inj hn).1 e
    omega)
  rwa [List.take_length] at this
theorem idx_mem {l : List ByteArray} {x : ByteArray} (h : x ∈ l) : ∃ k, k < l.length ∧ Lib.idxOfS l x = (k : Nat) ∧ l.getD k ByteArray.empty = x := by
  induction l with
  | nil => cases h
  | cons z l ih =>
    by_cases hz : z = x
    · exact ⟨0, by simp, by simp [Lib.idxOfS, Lib.idxFromS, hz], by simpa using hz⟩
    · rcases List.mem_cons.1 h with rfl | h
      · exact absurd rfl hz
      · obtain ⟨k, h1, h2, h3⟩ := ih h
        refine ⟨k + 1, by simpa using h1, ?_, by simpa using h3⟩
        have hl : ∀ j, j < k → l.getD j ByteArray.empty ≠ x := fun j hj e => by
          have hit : Lib.idxOfS l x = (j : Int) ∨ ∃ i, i < j ∧ Lib.idxOfS l x = (i : Int) := by
            induction j using Nat.strongRecOn with
            | _ j ihj =>
              by_cases hex : ∃ i, i < j ∧ l.getD i ByteArray.empty = x
              · obtain ⟨i, hi, he⟩ := hex
                rcases ihj i hi (by omega) he with h4 | ⟨q, h4, h5⟩
                · exact .inr ⟨i, hi, h4⟩
                · exact .inr ⟨q, by omega, h5⟩
              · have := Lib.idxOfS_hit l l.length j x (by omega) (Nat.le_refl _) e (fun i hi he => hex ⟨i, hi, he⟩)
                rw [List.take_length] at this
                exact .inl this
          rcases hit with h4 | ⟨i, h4, h5⟩ <;> omega
        have := Lib.idxFromS_hit x (z :: l) (k + 1) 0 (by simpa using h1) (by simpa using h3) (fun j hj => by
          cases j with
          | zero => simpa using hz
          | succ j => simpa using hl j (by omega))
        simpa [Lib.idxOfS] using this
theorem idx_lt_take {l : List ByteArray} {k : Nat} (hk : k < l.length) : (Lib.idxOfS l (l.getD k ByteArray.empty) < (k : Int)) ↔ l.getD k ByteArray.empty ∈ l.take k := by
  constructor
  · intro h
    by_cases hm : l.getD k ByteArray.empty ∈ l
    · obtain ⟨j, h1, h2, h3⟩ := idx_mem hm
      have hj : j < k := by omega
      rw [← h3, List.getD_eq_getElem?_getD, List.getElem?_eq_getElem h1]
      simp only [Option.getD_some]
      exact List.mem_take_iff_getElem.2 ⟨j, by omega, rfl⟩
    · exact absurd (by rw [List.getD_eq_getElem?_getD, List.getElem?_eq_getElem hk]; exact List.getElem_mem hk) hm
  · intro h
    obtain ⟨j, h1, h2⟩ := List.mem_take_iff_getElem.1 h
    have hjk : j < k := by omega
    -- a first place at or before j
    have : ∃ i, i ≤ j ∧ l.getD i ByteArray.empty = l.getD k ByteArray.empty ∧ ∀ q, q < i → l.getD q ByteArray.empty ≠ l.getD k ByteArray.empty := by
      have he : l.getD j ByteArray.empty = l.getD k ByteArray.empty := by
        rw [← h2, List.getD_eq_getElem?_getD, List.getElem?_eq_getElem (by omega)]; rfl
      clear h1 h2 hjk
      induction j using Nat.strongRecOn with
      | _ j ihj =>
        by_cases hex : ∃ i, i < j ∧ l.getD i ByteArray.empty = l.getD k ByteArray.empty
        · obtain ⟨i, hi, he'⟩ := hex
          obtain ⟨q, h4, h5, h6⟩ := ihj i hi he'
          exact ⟨q, by omega, h5, h6⟩
        · exact ⟨j, Nat.le_refl _, he, fun q hq e => hex ⟨q, hq, e⟩⟩
    obtain ⟨i, hi, he, hne⟩ := this
    have := Lib.idxOfS_hit l l.length i _ (by omega) (Nat.le_refl _) he hne
    rw [List.take_length] at this
    omega
/-- the mask of some names, or what is wrong -/
def grp (A : List ByteArray) : List ByteArray → Nat → Nat × Int
  | [], m => (m, 0)
  | x :: xs, m => if 0 ≤ Lib.idxOfS A x then (if m.testBit (Lib.idxOfS A x).toNat then (0, 7) else grp A xs (m ||| 2 ^ (Lib.idxOfS A x).toNat)) else (0, 6)
/-- the names of a mask among the first k -/
def selK (A : List ByteArray) (g k : Nat) : List ByteArray := ((List.range k).filter (fun i => g.testBit i)).map (fun i => A.getD i ByteArray.empty)
theorem selK_succ (A : List ByteArray) (g k : Nat) : selK A g (k + 1) = if g.testBit k then selK A g k ++ [A.getD k ByteArray.empty] else selK A g k := by
  unfold selK
  rw [List.range_succ, List.filter_append, List.map_append]
  by_cases h : g.testBit k <;> simp [h]
/-- the count of the bits below k -/
def popK (g k : Nat) : Nat := ((List.range k).filter (fun i => g.testBit i)).length
theorem selK_length (A : List ByteArray) (g k : Nat) : (selK A g k).length = popK g k := by simp [selK, popK]
/-- the text of a row of names -/
def joinV (l : List ByteArray) : ByteArray := ⟨(Lib.join (l.map (·.data.toList)) [44]).toArray⟩
def textV (A F X : List ByteArray) (g : Int) : ByteArray × Int :=
  if sigErr A F X = 0 then (if 1 ≤ g ∧ g < 2 ^ A.length then (joinV (selK A g.toNat A.length), 0) else (ByteArray.empty, 2)) else (ByteArray.empty, sigErr A F X)
/-- the pieces between the commas -/
def sp (l : List UInt8) : List (List UInt8) := match l with
  | [] => [[]]
  | c :: r => if c = 44 then [] :: sp r else match sp r with
    | [] => [[c]]
    | p :: ps => (c :: p) :: ps
/-- the parts of a text as strings -/
def partsB (s : ByteArray) : List ByteArray := (sp s.data.toList).map (fun l => ⟨l.toArray⟩)
/-- what a text says -/
def parseV (A F X : List ByteArray) (t : ByteArray) : Nat × Int :=
  if sigErr A F X = 0 then (if (partsB t).all nameV = true then grp A (partsB t) 0 else (0, 4)) else (0, sigErr A F X)
end Go.Proofs.Ws
/- Layer 5 as plain mathematics: subtrees, which nodes are used, lengths of canonical lists. -/
namespace Go.Proofs.Ws
open Go
def szT : Tr → Nat
  | .leaf _ => 1
  | .un _ a => szT a + 1
  | .bin _ a b => szT a + szT b + 1
/-- a tree within a tree -/
def subT (s : Tr) : Tr → Prop
  | .leaf n => s = .leaf n
  | .un n a => s = .un n a ∨ subT s a
  | .bin n a b => s = .bin n a b ∨ subT s a ∨ subT s b
theorem subT_sz {s : Tr} : ∀ {t : Tr}, subT s t → szT s ≤ szT t
  | .leaf n, h => by have h : s = .leaf n := h; rw [h]; exact Nat.le_refl _
  | .un n a, h => by
    rcases h with h | h
    · rw [h]; exact Nat.le_refl _
    · have := subT_sz h
      show szT s ≤ szT a + 1
      omega
  | .bin n a b, h => by
    rcases h with h | h | h
    · rw [h]; exact Nat.le_refl _
    · have := subT_sz h
      show szT s ≤ szT a + szT b + 1
      omega
    · have := subT_sz h
      show szT s ≤ szT a + szT b + 1
      omega
theorem subT_ok {s : Tr} : ∀ {t : Tr}, subT s t → trOk t → trOk s
  | .leaf n, h, hk => by have h : s = .leaf n := h; rw [h]; exact hk
  | .un n a, h, hk => by
    rcases h with h | h
    · rw [h]; exact hk
    · exact subT_ok h hk.2.2.2
  | .bin n a b, h, hk => by
    rcases h with h | h | h
    · rw [h]; exact hk
    · exact subT_ok h hk.2.2.2.1
    · exact subT_ok h hk.2.2.2.2
/-- what is put new stands for a tree within the tree -/
theorem finT_sub : ∀ (t : Tr) (o : List Nd) (k : Nat), o.length ≤ k → k < (finT t o).2.length → ∃ s, rep (finT t o).2 k s ∧ subT s t
  | .leaf n, o, k, h1, h2 => by
    have hl := putNd_len o n
    have e2 : (finT (.leaf n) o) = putNd o n := rfl
    rw [e2] at h2 ⊢
    have hk : k = (putNd o n).1 := by
      unfold putNd at h2 ⊢
      split
      · rename_i hm
        rw [if_pos hm] at h2
        have h2 : k < o.length := h2
        omega
      · rename_i hm
        rw [if_neg hm] at h2
        have h2 : k < (o ++ [n]).length := h2
        rw [List.length_append] at h2
        have h2 : k < o.length + 1 := h2
        show k = o.length
        omega
    rw [hk]
    exact ⟨.leaf n, putNd_at o n, rfl⟩
  | .un n a, o, k, h1, h2 => by
    have ih := finT_sub a o
    have e2 : (finT (.un n a) o) = putNd (finT a o).2 { n with x := ((finT a o).1 : Int) } := rfl
    have hrep := finT_rep (.un n a) o
    have hpre := putNd_pre (finT a o).2 { n with x := ((finT a o).1 : Int) }
    by_cases hk : k < (finT a o).2.length
    · obtain ⟨s, h3, h4⟩ := ih k h1 hk
      exact ⟨s, by rw [e2]; exact rep_mono hpre s k h3, .inr h4⟩
    · refine ⟨.un n a, ?_, .inl rfl⟩
      have hk2 : k = (finT (.un n a) o).1 := by
        rw [e2] at h2 ⊢
        unfold putNd at h2 ⊢
        split
        · rename_i hm
          rw [if_pos hm] at h2
          exact absurd h2 hk
        · rename_i hm
          rw [if_neg hm] at h2
          have h2 : k < ((finT a o).2 ++ [_]).length := h2
          rw [List.length_append] at h2
          have h2 : k < (finT a o).2.length + 1 := h2
          show k = (finT a o).2.length
          omega
      rw [hk2]; exact hrep
  | .bin n a b, o, k, h1, h2 => by
    have iha := finT_sub a o
    have ihb := finT_sub b (finT a o).2
    have e2 : (finT (.bin n a b) o) = putNd (finT b (finT a o).2).2 { n with x := ((finT a o).1 : Int), y := ((finT b (finT a o).2).1 : Int) } := rfl
    have hrep := finT_rep (.bin n a b) o
    have hpre := putNd_pre (finT b (finT a o).2).2 { n with x := ((finT a o).1 : Int), y := ((finT b (finT a o).2).1 : Int) }
    by_cases hk : k < (finT b (finT a o).2).2.length
    · by_cases hka : k < (finT a o).2.length
      · obtain ⟨s, h3, h4⟩ := iha k h1 hka
        exact ⟨s, by rw [e2]; exact rep_mono hpre s k (rep_mono (finT_pre b _) s k h3), .inr (.inl h4)⟩
      · obtain ⟨s, h3, h4⟩ := ihb k (by omega) hk
        exact ⟨s, by rw [e2]; exact rep_mono hpre s k h3, .inr (.inr h4)⟩
    · refine ⟨.bin n a b, ?_, .inl rfl⟩
      have hk2 : k = (finT (.bin n a b) o).1 := by
        rw [e2] at h2 ⊢
        unfold putNd at h2 ⊢
        split
        · rename_i hm
          rw [if_pos hm] at h2
          exact absurd h2 hk
        · rename_i hm
          rw [if_neg hm] at h2
          have h2 : k < ((finT b (finT a o).2).2 ++ [_]).length := h2
          rw [List.length_append] at h2
          have h2 : k < (finT b (finT a o).2).2.length + 1 := h2
          show k = (finT b (finT a o).2).2.length
          omega
      rw [hk2]; exact hrep
/-- each node of a canonical list stands for a subtree -/
theorem canT_sub {t : Tr} (ht : trOk t) {k : Nat} (hk : k < (canT t).length) : subT (treeAt (canT t) k) t := by
  obtain ⟨s, h1, h2⟩ := finT_sub t [] k (Nat.zero_le _) hk
  have := rep_tree (canT_ops ht) s k (subT_ok h2 ht) h1
  rw [this]; exact h2
/-- the root is the last node -/
theorem canT_last {t : Tr} (ht : trOk t) : (finT t []).1 = (canT t).length - 1 := by
  have key : ∀ (o : List Nd) (m : Nd), finT t [] = putNd o m → (∀ k, k < o.length → ∃ s, rep o k s ∧ trOk s ∧ szT s < szT t) → opsL o → (finT t []).1 = (canT t).length - 1 := by
    intro o m he hs ho
    unfold canT
    rw [he]
    rcases putNd_lastOr o m with hm | h
    · exfalso
      have hrep := finT_rep t []
      rw [he] at hrep
      have e : putNd o m = (o.idxOf m, o) := by unfold putNd; rw [if_pos hm]
      rw [e] at hrep
      have hk : o.idxOf m < o.length := List.idxOf_lt_length_of_mem hm
      obtain ⟨s, h1, h2, h3⟩ := hs _ hk
      have t1 := rep_tree ho s _ h2 h1
      have t2 := rep_tree ho t _ ht hrep
      rw [t1] at t2
      rw [t2] at h3
      omega
    · exact h
  cases t with
  | leaf n =>
    exact key [] n rfl (fun k hk => absurd hk (by simp)) (fun i hi => absurd hi (by simp))
  | un n a =>
    have ha : trOk a := ht.2.2.2
    refine key (finT a []).2 _ rfl (fun k hk => ?_) (canT_ops ha)
    obtain ⟨s, h1, h2⟩ := finT_sub a [] k (Nat.zero_le _) hk
    have := subT_sz h2
    exact ⟨s, h1, subT_ok h2 ha, by show szT s < szT a + 1; omega⟩
  | bin n a b =>
    have ha : trOk a := ht.2.2.2.1
    have hb : trOk b := ht.2.2.2.2
    refine key (finT b (finT a []).2).2 _ rfl (fun k hk => ?_) (finT_ops b hb (canT_ops ha))
    by_cases hka : k < (finT a []).2.length
    · obtain ⟨s, h1, h2⟩ := finT_sub a [] k (Nat.zero_le _) hka
      have := subT_sz h2
      exact ⟨s, rep_mono (finT_pre b _) s k h1, subT_ok h2 ha, by show szT s < szT a + szT b + 1; omega⟩
    · obtain ⟨s, h1, h2⟩ := finT_sub b (finT a []).2 k (by omega) hk
      have := subT_sz h2
      exact ⟨s, h1, subT_ok h2 hb, by show szT s < szT a + szT b + 1; omega⟩
/-- the canonical list stands for the tree -/
theorem canT_tree {t : Tr} (ht : trOk t) : treeAt (canT t) ((canT t).length - 1) = t := by
  have h := finT_rep t []
  rw [canT_last ht] at h
  exact rep_tree (canT_ops ht) t _ ht h
theorem canT_ne (t : Tr) : canT t ≠ [] := fun e => by have := finT_lt t []; unfold canT at e; rw [e] at this; simp at this
/-- the canonical list of a canonical list is itself -/
theorem canonF_canT {t : Tr} (ht : trOk t) : canonF (canT t) = canT t := by
  rw [canonF_tree (canT_ops ht) (canT_ne t), canT_tree ht]
end Go.Proofs.Ws
namespace Go.Proofs.Ws
open Go
/-- node j uses node k -/
def uses (o : List Nd) (j k : Nat) : Prop := j < o.length ∧ ((usesX (o.getD j nd0).op = true ∧ (o.getD j nd0).x = (k : Int)) ∨ (usesY (o.getD j nd0).op = true ∧ (o.getD j nd0).y = (k : Int)))
end Go.Proofs.Ws
namespace Go.Proofs.Ws
open Go
end Go.Proofs.Ws
/- Layer 6 as plain mathematics: tokens, and the parser over tokens. -/
namespace Go.Proofs.Ws
open Go
def letN (m : Nat) : Bool := (decide (97 ≤ m) && decide (m ≤ 122)) || (decide (65 ≤ m) && decide (m ≤ 90)) || decide (m = 95)
def wordN (m : Nat) : Bool := letN m || digN m
def spaceN (m : Nat) : Bool := decide (m = 32) || decide (m = 9) || decide (m = 10)
/-- ~&|()[],.! -/
def markL : List Nat := [126, 38, 124, 40, 41, 91, 93, 44, 46, 33]
def scanL (p : Nat → Bool) : List UInt8 → Nat
  | [] => 0
  | c :: l => if p c.toNat = true then scanL p l + 1 else 0
/-- the length of the token at the beginning, or 0 -/
def partL (l : List UInt8) : Nat :=
  match l with
  | [] => 0
  | c :: _ => if letN c.toNat = true then scanL wordN l else if digN c.toNat = true then scanL digN l else if [60, 45, 62] <+: l then 3 else if [45, 62] <+: l then 2 else if c.toNat ∈ markL then 1 else 0
structure Toks where
  words : List ByteArray
  ats : List Nat
  pos : Nat
  err : Int
def tokF : Nat → List UInt8 → Nat → List ByteArray → List Nat → Toks
  | 0, _, _, ws, at_ => ⟨ws, at_, 0, 0⟩
  | fuel + 1, l, i, ws, at_ =>
    match l with
    | [] => ⟨ws, at_, 0, 0⟩
    | c :: r =>
      if spaceN c.toNat = true then tokF fuel r (i + 1) ws at_
      else if partL (c :: r) = 0 then ⟨[], [], i, 4⟩
      else tokF fuel ((c :: r).drop (partL (c :: r))) (i + partL (c :: r)) (ws ++ [⟨((c :: r).take (partL (c :: r))).toArray⟩]) (at_ ++ [i])
def tokV (s : ByteArray) : Toks := if 4000 < s.size then ⟨[], [], 0, 8⟩ else tokF (s.size + 1) s.data.toList 0 [] []
/-- the end of the letters that pass the test, from a place on -/
def scanE (p : Nat → Bool) (l : List UInt8) (k : Nat) : Nat := k + scanL p (l.drop k)
theorem scanE_yes {p : Nat → Bool} {l : List UInt8} {k : Nat} (h : k < l.length) (hp : p l[k].toNat = true) : scanE p l k = scanE p l (k + 1) := by
  unfold scanE
  rw [List.drop_eq_getElem_cons h]
  show k + (if p l[k].toNat = true then scanL p (l.drop (k + 1)) + 1 else 0) = _
  rw [if_pos hp]; omega
theorem scanE_no {p : Nat → Bool} {l : List UInt8} {k : Nat} (h : k < l.length) (hp : p l[k].toNat = false) : scanE p l k = k := by
  unfold scanE
  rw [List.drop_eq_getElem_cons h]
  show k + (if p l[k].toNat = true then scanL p (l.drop (k + 1)) + 1 else 0) = _
  rw [if_neg (by rw [hp]; decide)]; rfl
theorem scanE_end {p : Nat → Bool} {l : List UInt8} {k : Nat} (h : l.length ≤ k) : scanE p l k = k := by
  unfold scanE
  rw [List.drop_of_length_le h]; rfl
/-- the end of the token at a place, or the place -/
def partE (l : List UInt8) (i : Nat) : Nat := i + partL (l.drop i)
theorem tokF_end {l : List UInt8} {fuel i : Nat} {ws : List ByteArray} {at_ : List Nat} (h : l.length ≤ i) : tokF fuel (l.drop i) i ws at_ = ⟨ws, at_, 0, 0⟩ := by
  rw [List.drop_of_length_le h]
  cases fuel <;> rfl
theorem tokF_eq (fuel : Nat) (c : UInt8) (r : List UInt8) (i : Nat) (ws : List ByteArray) (at_ : List Nat) : tokF (fuel + 1) (c :: r) i ws at_ =
    (if spaceN c.toNat = true then tokF fuel r (i + 1) ws at_
      else if partL (c :: r) = 0 then ⟨[], [], i, 4⟩
      else tokF fuel ((c :: r).drop (partL (c :: r))) (i + partL (c :: r)) (ws ++ [⟨((c :: r).take (partL (c :: r))).toArray⟩]) (at_ ++ [i])) := rfl
theorem tokF_space {l : List UInt8} {fuel i : Nat} {ws : List ByteArray} {at_ : List Nat} (h : i < l.length) (hs : spaceN l[i].toNat = true) : tokF (fuel + 1) (l.drop i) i ws at_ = tokF fuel (l.drop (i + 1)) (i + 1) ws at_ := by
  rw [List.drop_eq_getElem_cons h, tokF_eq, if_pos hs]
theorem tokF_bad {l : List UInt8} {fuel i : Nat} {ws : List ByteArray} {at_ : List Nat} (h : i < l.length) (hs : spaceN l[i].toNat = false) (hp : partE l i = i) : tokF (fuel + 1) (l.drop i) i ws at_ = ⟨[], [], i, 4⟩ := by
  have h0 : partL (l.drop i) = 0 := by unfold partE at hp; omega
  rw [List.drop_eq_getElem_cons h] at h0 ⊢
  rw [tokF_eq, if_neg (by rw [hs]; decide), if_pos h0]
theorem tokF_word {l : List UInt8} {fuel i : Nat} {ws : List ByteArray} {at_ : List Nat} (h : i < l.length) (hs : spaceN l[i].toNat = false) (hp : partE l i ≠ i) :
    tokF (fuel + 1) (l.drop i) i ws at_ = tokF fuel (l.drop (partE l i)) (partE l i) (ws ++ [⟨((l.drop i).take (partE l i - i)).toArray⟩]) (at_ ++ [i]) := by
  have h0 : partL (l.drop i) ≠ 0 := by unfold partE at hp; omega
  have he : partE l i - i = partL (l.drop i) := by unfold partE; omega
  rw [he]
  unfold partE
  rw [← List.drop_drop]
  rw [List.drop_eq_getElem_cons h] at h0 ⊢
  rw [tokF_eq, if_neg (by rw [hs]; decide), if_neg h0]
theorem scanL_le (p : Nat → Bool) : ∀ l : List UInt8, scanL p l ≤ l.length
  | [] => Nat.le_refl _
  | c :: l => by
    unfold scanL
    split
    · have := scanL_le p l
      simp; omega
    · exact Nat.zero_le _
theorem partL_le (l : List UInt8) : partL l ≤ l.length := by
  unfold partL
  split
  · exact Nat.le_refl _
  · rename_i c r
    split
    · exact scanL_le _ _
    · split
      · exact scanL_le _ _
      · split
        · rename_i h; have := h.length_le; exact this
        · split
          · rename_i h; have := h.length_le; exact this
          · split
            · simp
            · exact Nat.zero_le _
/-- words that are never names: true false next prev until since K M S B E D C -/
def specL : List ByteArray := [⟨#[116, 114, 117, 101]⟩, ⟨#[102, 97, 108, 115, 101]⟩, ⟨#[110, 101, 120, 116]⟩, ⟨#[112, 114, 101, 118]⟩, ⟨#[117, 110, 116, 105, 108]⟩, ⟨#[115, 105, 110, 99, 101]⟩, ⟨#[75]⟩, ⟨#[77]⟩, ⟨#[83]⟩, ⟨#[66]⟩, ⟨#[69]⟩, ⟨#[68]⟩, ⟨#[67]⟩]
/-- a signature, and the tokens of a text -/
structure PEnv where
  A : List ByteArray
  F : List ByteArray
  X : List ByteArray
  ws : List ByteArray
structure PSt where
  next : Nat
  nodes : List Nd
inductive PRes where
  | ok (v : Nat) (s : PSt)
  | err (tok : Nat) (e : Int)
def tkP (E : PEnv) (s : PSt) : ByteArray := E.ws.getD s.next ByteArray.empty
def PSt.adv (s : PSt) : PSt := { s with next := s.next + 1 }
def PSt.add (s : PSt) (n : Nd) : PRes := .ok (putNd s.nodes n).1 { s with nodes := (putNd s.nodes n).2 }
def PRes.bind (r : PRes) (k : Nat → PSt → PRes) : PRes := match r with | .ok v s => k v s | .err t e => .err t e
def obind (r : Option PRes) (k : Nat → PSt → Option PRes) : Option PRes := match r with | some (.ok v s) => k v s | some (.err t e) => some (.err t e) | none => none
def headN (w : ByteArray) : Nat := (w.data.toList.getD 0 0).toNat
def nameOk (w : ByteArray) : Bool := decide (w.size ≠ 0) && letN (headN w) && !Lib.containsS specL w
/-- a name: of a fact (0), an agent (1), an action model (2) -/
def nameP (E : PEnv) (what : Nat) (s : PSt) : PRes :=
  if nameOk (tkP E s) = false then .err s.next 4 else
  if Lib.idxOfS (if what = 0 then E.F else if what = 1 then E.A else E.X) (tkP E s) < 0 then .err s.next 5
  else .ok (Lib.idxOfS (if what = 0 then E.F else if what = 1 then E.A else E.X) (tkP E s)).toNat s.adv
def expectP (E : PEnv) (w : ByteArray) (s : PSt) (k : PSt → Option PRes) : Option PRes := if tkP E s = w then k s.adv else some (.err s.next 4)
/-- further agents behind the first -/
def agentsL (E : PEnv) : Nat → Nat → PSt → Option PRes
  | 0, _, _ => none
  | fuel + 1, g, s =>
    if tkP E s = ⟨#[44]⟩ then
      obind (some (nameP E 1 s.adv)) fun b s' => if g.testBit b = true then some (.err (s.next + 1) 7) else agentsL E fuel (g ||| 2 ^ b) s'
    else some (.ok g s)
def numberP (E : PEnv) (s : PSt) : PRes :=
  if (decide ((tkP E s).size ≠ 0) && digN (headN (tkP E s))) = false then .err s.next 4 else
  if 1 < (tkP E s).size ∨ 8 ≤ headN (tkP E s) - 48 then .err s.next 2 else .ok (headN (tkP E s) - 48) s.adv
inductive Rule where
  | formula | iffL (x : Nat) | implies | time | or | orL (x : Nat) | and | andL (x : Nat) | pre
def runP (E : PEnv) : Nat → Rule → PSt → Option PRes
  | 0, _, _ => none
  | n + 1, .formula, s => obind (runP E n .implies s) fun x s => runP E n (.iffL x) s
  | n + 1, .iffL x, s =>
    if tkP E s = ⟨#[60, 45, 62]⟩ then obind (runP E n .implies s.adv) fun y s => obind (some (s.add ⟨8, 0, 0, 0, x, y⟩)) fun k s => runP E n (.iffL k) s
    else some (.ok x s)
  | n + 1, .implies, s => obind (runP E n .time s) fun x s =>
    if tkP E s = ⟨#[45, 62]⟩ then obind (runP E n .implies s.adv) fun y s => some (s.add ⟨7, 0, 0, 0, x, y⟩) else some (.ok x s)
  | n + 1, .time, s => obind (runP E n .or s) fun x s =>
    if tkP E s = ⟨#[117, 110, 116, 105, 108]⟩ then obind (runP E n .time s.adv) fun y s => some (s.add ⟨19, 0, 0, 0, x, y⟩)
    else if tkP E s = ⟨#[115, 105, 110, 99, 101]⟩ then obind (runP E n .time s.adv) fun y s => some (s.add ⟨21, 0, 0, 0, x, y⟩)
    else some (.ok x s)
  | n + 1, .or, s => obind (runP E n .and s) fun x s => runP E n (.orL x) s
  | n + 1, .orL x, s =>
    if tkP E s = ⟨#[124]⟩ then obind (runP E n .and s.adv) fun y s => obind (some (s.add ⟨6, 0, 0, 0, x, y⟩)) fun k s => runP E n (.orL k) s
    else some (.ok x s)
  | n + 1, .and, s => obind (runP E n .pre s) fun x s => runP E n (.andL x) s
  | n + 1, .andL x, s =>
    if tkP E s = ⟨#[38]⟩ then obind (runP E n .pre s.adv) fun y s => obind (some (s.add ⟨5, 0, 0, 0, x, y⟩)) fun k s => runP E n (.andL k) s
    else some (.ok x s)
  | n + 1, .pre, s =>
    let w := tkP E s
    let un := fun (op : Int) => obind (runP E n .pre s.adv) fun x s => some (s.add ⟨op, 0, 0, 0, x, 0⟩)
    let ag := fun (op : Int) => expectP E ⟨#[91]⟩ s.adv fun s => obind (some (nameP E 1 s)) fun a s => expectP E ⟨#[93]⟩ s fun s => obind (runP E n .pre s) fun x s => some (s.add ⟨op, a, 0, 0, x, 0⟩)
    let gr := fun (op : Int) => expectP E ⟨#[91]⟩ s.adv fun s => obind (some (nameP E 1 s)) fun a s => obind (agentsL E (E.ws.length + 1) (2 ^ a) s) fun g s => expectP E ⟨#[93]⟩ s fun s => obind (runP E n .pre s) fun x s => some (s.add ⟨op, 0, 0, g, x, 0⟩)
    let bar := fun (s : PSt) (k : Nat → PSt → Option PRes) => if tkP E s = ⟨#[124]⟩ then obind (runP E n .formula s.adv) k else obind (some (s.add ⟨1, 0, 0, 0, 0, 0⟩)) k
    if w = ⟨#[126]⟩ then un 4 else if w = ⟨#[110, 101, 120, 116]⟩ then un 18 else if w = ⟨#[112, 114, 101, 118]⟩ then un 20
    else if w = ⟨#[75]⟩ then ag 9 else if w = ⟨#[77]⟩ then ag 10 else if w = ⟨#[83]⟩ then ag 15
    else if w = ⟨#[66]⟩ then expectP E ⟨#[91]⟩ s.adv fun s => obind (some (nameP E 1 s)) fun a s => bar s fun c s => expectP E ⟨#[93]⟩ s fun s => obind (runP E n .pre s) fun x s => some (s.add ⟨14, a, 0, 0, c, x⟩)
    else if w = ⟨#[69]⟩ then gr 11 else if w = ⟨#[68]⟩ then gr 12
    else if w = ⟨#[67]⟩ then expectP E ⟨#[91]⟩ s.adv fun s => obind (some (nameP E 1 s)) fun a s => obind (agentsL E (E.ws.length + 1) (2 ^ a) s) fun g s => bar s fun c s => expectP E ⟨#[93]⟩ s fun s => obind (runP E n .pre s) fun x s => some (s.add ⟨13, 0, 0, g, c, x⟩)
    else if w = ⟨#[91]⟩ then
      if tkP E s.adv = ⟨#[33]⟩ then obind (runP E n .formula s.adv.adv) fun c s => expectP E ⟨#[93]⟩ s fun s => obind (runP E n .pre s) fun x s => some (s.add ⟨16, 0, 0, 0, c, x⟩)
      else obind (some (nameP E 2 s.adv)) fun a s => expectP E ⟨#[46]⟩ s fun s => obind (some (numberP E s)) fun e s => expectP E ⟨#[93]⟩ s fun s => obind (runP E n .pre s) fun x s => some (s.add ⟨17, a, e, 0, x, 0⟩)
    else if w = ⟨#[116, 114, 117, 101]⟩ then some (s.adv.add ⟨1, 0, 0, 0, 0, 0⟩) else if w = ⟨#[102, 97, 108, 115, 101]⟩ then some (s.adv.add ⟨2, 0, 0, 0, 0, 0⟩)
    else if w = ⟨#[40]⟩ then obind (runP E n .formula s.adv) fun x s => expectP E ⟨#[41]⟩ s fun s => some (.ok x s)
    else obind (some (nameP E 0 s)) fun a s => some (s.add ⟨3, a, 0, 0, 0, 0⟩)
end Go.Proofs.Ws
/- Layer 6 as plain mathematics: the parser over tokens ends. -/
namespace Go.Proofs.Ws
open Go
/-- there is a result, and neither it nor an error lies ahead of a token -/
def Tot (m : Nat) (o : Option PRes) : Prop := ∃ r, o = some r ∧ (∀ v s', r = .ok v s' → m ≤ s'.next) ∧ ∀ t e, r = .err t e → m ≤ t
theorem Tot.bind {m : Nat} {a : Option PRes} {k : Nat → PSt → Option PRes} (h : Tot m a) (hk : ∀ v s, m ≤ s.next → Tot m (k v s)) : Tot m (obind a k) := by
  obtain ⟨r, rfl, hr, he⟩ := h
  cases r with
  | ok v s => exact hk v s (hr v s rfl)
  | err t e => exact ⟨.err t e, rfl, (fun v s' h => by cases h), fun t' e' h => by injection h with h1 _; rw [← h1]; exact he t e rfl⟩
theorem Tot.mono {m m' : Nat} {o : Option PRes} (h : Tot m o) (hm : m' ≤ m) : Tot m' o := by
  obtain ⟨r, h1, h2, h3⟩ := h
  exact ⟨r, h1, (fun v s' h => Nat.le_trans hm (h2 v s' h)), fun t e h => Nat.le_trans hm (h3 t e h)⟩
theorem Tot.err {m t : Nat} {e : Int} (h : m ≤ t) : Tot m (some (.err t e)) := ⟨_, rfl, (fun v s' h => by cases h), fun t' e' h' => by injection h' with h1 _; rw [← h1]; exact h⟩
theorem Tot.ok {m v : Nat} {s : PSt} (h : m ≤ s.next) : Tot m (some (.ok v s)) := ⟨_, rfl, (fun v s' h' => by injection h' with _ h2; rw [← h2]; exact h), fun t e h => by cases h⟩
theorem Tot.add {m : Nat} {s : PSt} {n : Nd} (h : m ≤ s.next) : Tot m (some (s.add n)) := Tot.ok h
theorem tk_lt {E : PEnv} {s : PSt} {w : ByteArray} (h : tkP E s = w) (hw : w.size ≠ 0) : s.next < E.ws.length := by
  refine Nat.lt_of_not_le (fun hle => hw ?_)
  rw [← h]
  unfold tkP
  rw [List.getD_eq_getElem?_getD, List.getElem?_eq_none hle]
  rfl
theorem Tot.expect {m : Nat} {E : PEnv} {w : ByteArray} {s : PSt} {k : PSt → Option PRes} (hs : m ≤ s.next) (hk : tkP E s = w → Tot m (k s.adv)) : Tot m (expectP E w s k) := by
  unfold expectP
  split
  · rename_i h; exact hk h
  · exact Tot.err hs
theorem Tot.name {m what : Nat} {E : PEnv} {s : PSt} (h : m ≤ s.next) : Tot m (some (nameP E what s)) := by
  unfold nameP
  generalize (if what = 0 then E.F else if what = 1 then E.A else E.X) = L
  split
  · exact Tot.err h
  · split
    · exact Tot.err h
    · exact Tot.ok (s := s.adv) (show m ≤ s.next + 1 by omega)
theorem Tot.number {m : Nat} {E : PEnv} {s : PSt} (h : m ≤ s.next) : Tot m (some (numberP E s)) := by
  unfold numberP
  split
  · exact Tot.err h
  · split
    · exact Tot.err h
    · exact Tot.ok (s := s.adv) (show m ≤ s.next + 1 by omega)
theorem Tot.agents {E : PEnv} : ∀ (n g m : Nat) (s : PSt), m ≤ s.next → E.ws.length - s.next < n → Tot m (agentsL E n g s) := by
  intro n
  induction n with
  | zero => intro g m s _ h; omega
  | succ n ih =>
    intro g m s hm h
    unfold agentsL
    split
    · rename_i hc
      have hlt := tk_lt hc (by decide)
      refine Tot.mono (m := s.next + 1) ?_ (by omega)
      refine Tot.bind (Tot.name (s := s.adv) (Nat.le_refl (s.next + 1))) (fun v s1 h1 => ?_)
      split
      · exact Tot.err (Nat.le_refl _)
      · exact ih _ _ s1 h1 (by omega)
    · exact Tot.ok hm
def Rule.rank : Rule → Nat
  | .pre => 1
  | .andL _ => 2
  | .and => 3
  | .orL _ => 2
  | .or => 4
  | .time => 5
  | .implies => 6
  | .iffL _ => 2
  | .formula => 7
theorem run_total (E : PEnv) : ∀ (n : Nat) (rule : Rule) (s : PSt), 10 * (E.ws.length - s.next) + rule.rank ≤ n → Tot s.next (runP E n rule s) := by
  intro n
  induction n with
  | zero => intro rule s h; cases rule <;> (simp only [Rule.rank] at h; omega)
  | succ n ih =>
    intro rule s h
    -- a call behind the place m
    have call : ∀ {m : Nat} (r : Rule) (s1 : PSt), s.next + 1 ≤ m → s.next < E.ws.length → m ≤ s1.next → Tot m (runP E n r s1) := by
      intro m r s1 h1 h2 h3
      refine (ih r s1 ?_).mono h3
      have hr : r.rank ≤ 7 := by cases r <;> (simp only [Rule.rank]; omega)
      have hr0 : 1 ≤ rule.rank := by cases rule <;> (simp only [Rule.rank]; omega)
      omega
    have loopT : ∀ {sg : ByteArray} {op : Int} {x : Nat} {r : Rule} {k : Nat → Rule}, sg.size ≠ 0 →
        Tot s.next (if tkP E s = sg then obind (runP E n r s.adv) fun y s => obind (some (s.add ⟨op, 0, 0, 0, x, y⟩)) fun a s => runP E n (k a) s else some (.ok x s)) := by
      intro sg op x r k hs
      split
      · rename_i hc
        have hlt := tk_lt hc hs
        refine Tot.mono (m := s.next + 1) ?_ (by omega)
        refine Tot.bind (call _ s.adv (Nat.le_refl _) hlt (Nat.le_refl _)) (fun y s1 h1 => ?_)
        exact Tot.bind (Tot.add h1) (fun a s2 h2 => call _ s2 (Nat.le_refl _) hlt h2)
      · exact Tot.ok (Nat.le_refl _)
    cases rule with
    | formula =>
      unfold runP
      refine Tot.bind (ih .implies s (by simp only [Rule.rank] at h ⊢; omega)) (fun x s1 h1 => (ih (.iffL x) s1 ?_).mono h1)
      simp only [Rule.rank] at h ⊢; omega
    | or =>
      unfold runP
      refine Tot.bind (ih .and s (by simp only [Rule.rank] at h ⊢; omega)) (fun x s1 h1 => (ih (.orL x) s1 ?_).mono h1)
      simp only [Rule.rank] at h ⊢; omega
    | and =>
      unfold runP
      refine Tot.bind (ih .pre s (by simp only [Rule.rank] at h ⊢; omega)) (fun x s1 h1 => (ih (.andL x) s1 ?_).mono h1)
      simp only [Rule.rank] at h ⊢; omega
    | iffL x => unfold runP; exact loopT (r := .implies) (k := .iffL) (by decide)
    | orL x => unfold runP; exact loopT (r := .and) (k := .orL) (by decide)
    | andL x => unfold runP; exact loopT (r := .pre) (k := .andL) (by decide)
    | implies =>
      unfold runP
      refine Tot.bind (ih .time s (by simp only [Rule.rank] at h ⊢; omega)) (fun x s1 h1 => ?_)
      split
      · rename_i hc
        have hlt := tk_lt hc (by decide)
        refine Tot.bind ((ih .implies s1.adv ?_).mono (show s.next ≤ s1.next + 1 by omega)) (fun y s2 h2 => Tot.add h2)
        have e : s1.adv.next = s1.next + 1 := rfl
        rw [e]
        simp only [Rule.rank] at h ⊢; omega
      · exact Tot.ok h1
    | time =>
      unfold runP
      refine Tot.bind (ih .or s (by simp only [Rule.rank] at h ⊢; omega)) (fun x s1 h1 => ?_)
      have e : s1.adv.next = s1.next + 1 := rfl
      split
      · rename_i hc
        have hlt := tk_lt hc (by decide)
        refine Tot.bind ((ih .time s1.adv ?_).mono (show s.next ≤ s1.next + 1 by omega)) (fun y s2 h2 => Tot.add h2)
        rw [e]
        simp only [Rule.rank] at h ⊢; omega
      · split
        · rename_i hc
          have hlt := tk_lt hc (by decide)
          refine Tot.bind ((ih .time s1.adv ?_).mono (show s.next ≤ s1.next + 1 by omega)) (fun y s2 h2 => Tot.add h2)
          rw [e]
          simp only [Rule.rank] at h ⊢; omega
        · exact Tot.ok h1
    | pre =>
      unfold runP
      dsimp only
      by_cases hlt : s.next < E.ws.length
      · have M : ∀ {o : Option PRes}, Tot (s.next + 1) o → Tot s.next o := fun h => h.mono (by omega)
        have a0 : s.next + 1 ≤ s.adv.next := Nat.le_refl _
        have cp : ∀ (r : Rule) (s1 : PSt), s.next + 1 ≤ s1.next → Tot (s.next + 1) (runP E n r s1) := fun r s1 h1 => call r s1 (Nat.le_refl _) hlt h1
        have unT : ∀ {op i e g : Int} (s1 : PSt), s.next + 1 ≤ s1.next → Tot (s.next + 1) (obind (runP E n .pre s1) fun x s => some (s.add ⟨op, i, e, g, x, 0⟩)) := fun s1 h1 => Tot.bind (cp _ s1 h1) (fun x s2 h2 => Tot.add h2)
        have exT : ∀ {w : ByteArray} {s1 : PSt} {k : PSt → Option PRes}, s.next + 1 ≤ s1.next → (∀ s2 : PSt, s.next + 1 ≤ s2.next → Tot (s.next + 1) (k s2)) → Tot (s.next + 1) (expectP E w s1 k) := fun h1 hk => Tot.expect h1 (fun _ => hk _ (Nat.le_trans h1 (Nat.le_succ _)))
        have agT : ∀ {a : Nat} {s1 : PSt}, s.next + 1 ≤ s1.next → Tot (s.next + 1) (agentsL E (E.ws.length + 1) (2 ^ a) s1) := fun h1 => Tot.agents _ _ _ _ h1 (by omega)
        have barT : ∀ {s1 : PSt} {k : Nat → PSt → Option PRes}, s.next + 1 ≤ s1.next → (∀ c s2, s.next + 1 ≤ s2.next → Tot (s.next + 1) (k c s2)) → Tot (s.next + 1) (if tkP E s1 = ⟨#[124]⟩ then obind (runP E n .formula s1.adv) k else obind (some (s1.add ⟨1, 0, 0, 0, 0, 0⟩)) k) := by
          intro s1 k h1 hk
          split
          · exact Tot.bind (cp _ s1.adv (Nat.le_trans h1 (Nat.le_succ _))) hk
          · exact Tot.bind (Tot.add h1) hk
        have binT : ∀ {op i g : Int} {c : Nat} {s1 : PSt}, s.next + 1 ≤ s1.next → Tot (s.next + 1) (expectP E ⟨#[93]⟩ s1 fun s => obind (runP E n .pre s) fun x s => some (s.add ⟨op, i, 0, g, c, x⟩)) := fun h1 => exT h1 (fun s2 h2 => Tot.bind (cp _ s2 h2) (fun x s3 h3 => Tot.add h3))
        have agR : ∀ {op : Int}, Tot (s.next + 1) (expectP E ⟨#[91]⟩ s.adv fun s => obind (some (nameP E 1 s)) fun a s => expectP E ⟨#[93]⟩ s fun s => obind (runP E n .pre s) fun x s => some (s.add ⟨op, a, 0, 0, x, 0⟩)) :=
          exT a0 (fun s1 h1 => Tot.bind (Tot.name h1) (fun a s2 h2 => exT h2 (fun s3 h3 => unT s3 h3)))
        have grR : ∀ {op : Int}, Tot (s.next + 1) (expectP E ⟨#[91]⟩ s.adv fun s => obind (some (nameP E 1 s)) fun a s => obind (agentsL E (E.ws.length + 1) (2 ^ a) s) fun g s => expectP E ⟨#[93]⟩ s fun s => obind (runP E n .pre s) fun x s => some (s.add ⟨op, 0, 0, g, x, 0⟩)) :=
          exT a0 (fun s1 h1 => Tot.bind (Tot.name h1) (fun a s2 h2 => Tot.bind (agT h2) (fun g s3 h3 => exT h3 (fun s4 h4 => unT s4 h4))))
        by_cases c1 : tkP E s = ⟨#[126]⟩
        · rw [if_pos c1]
          exact M (unT _ a0)
        rw [if_neg c1]
        by_cases c2 : tkP E s = ⟨#[110, 101, 120, 116]⟩
        · rw [if_pos c2]
          exact M (unT _ a0)
        rw [if_neg c2]
        by_cases c3 : tkP E s = ⟨#[112, 114, 101, 118]⟩
        · rw [if_pos c3]
          exact M (unT _ a0)
        rw [if_neg c3]
        by_cases c4 : tkP E s = ⟨#[75]⟩
        · rw [if_pos c4]
          exact M agR
        rw [if_neg c4]
        by_cases c5 : tkP E s = ⟨#[77]⟩
        · rw [if_pos c5]
          exact M agR
        rw [if_neg c5]
        by_cases c6 : tkP E s = ⟨#[83]⟩
        · rw [if_pos c6]
          exact M agR
        rw [if_neg c6]
        by_cases c7 : tkP E s = ⟨#[66]⟩
        · rw [if_pos c7]
          exact M (exT a0 (fun s1 h1 => Tot.bind (Tot.name h1) (fun a s2 h2 => barT h2 (fun c s3 h3 => binT h3))))
        rw [if_neg c7]
        by_cases c8 : tkP E s = ⟨#[69]⟩
        · rw [if_pos c8]
          exact M grR
        rw [if_neg c8]
        by_cases c9 : tkP E s = ⟨#[68]⟩
        · rw [if_pos c9]
          exact M grR
        rw [if_neg c9]
        by_cases c10 : tkP E s = ⟨#[67]⟩
        · rw [if_pos c10]
          exact M (exT a0 (fun s1 h1 => Tot.bind (Tot.name h1) (fun a s2 h2 => Tot.bind (agT h2) (fun g s3 h3 => barT h3 (fun c s4 h4 => binT h4)))))
        rw [if_neg c10]
        by_cases c11 : tkP E s = ⟨#[91]⟩
        · rw [if_pos c11]
          refine M ?_
          split
          · exact Tot.bind (cp _ s.adv.adv (Nat.le_succ _)) (fun c s1 h1 => binT h1)
          · exact Tot.bind (Tot.name a0) (fun a s1 h1 => exT h1 (fun s2 h2 => Tot.bind (Tot.number h2) (fun e s3 h3 => exT h3 (fun s4 h4 => unT s4 h4))))
        rw [if_neg c11]
        by_cases c12 : tkP E s = ⟨#[116, 114, 117, 101]⟩
        · rw [if_pos c12]
          exact M (Tot.add a0)
        rw [if_neg c12]
        by_cases c13 : tkP E s = ⟨#[102, 97, 108, 115, 101]⟩
        · rw [if_pos c13]
          exact M (Tot.add a0)
        rw [if_neg c13]
        by_cases c14 : tkP E s = ⟨#[40]⟩
        · rw [if_pos c14]
          exact M (Tot.bind (cp _ s.adv a0) (fun x s1 h1 => exT h1 (fun s2 h2 => Tot.ok h2)))
        · rw [if_neg c14]
          exact Tot.bind (Tot.name (Nat.le_refl _)) (fun a s1 h1 => Tot.add h1)
      · have e : tkP E s = ByteArray.empty := by
          unfold tkP
          rw [List.getD_eq_getElem?_getD, List.getElem?_eq_none (by omega)]
          rfl
        rw [e]
        repeat rw [if_neg (show ¬ (ByteArray.empty = _) by decide)]
        exact Tot.bind (Tot.name (Nat.le_refl _)) (fun a s1 h1 => Tot.add h1)
end Go.Proofs.Ws
/- Layer 6 as plain mathematics: the program's parser as a machine, which goes on behind an error. -/
namespace Go.Proofs.Ws
open Go
structure SEnv where
  P : PEnv
  ats : List Nat
  size : Nat
structure SS where
  next : Nat
  nodes : List Nd
  po : Int
  e : Int
def SS.adv (s : SS) : SS := { s with next := s.next + 1 }
def posS (E : SEnv) (t : Nat) : Int := if t < E.ats.length then ((E.ats.getD t 0 : Nat) : Int) else (E.size : Int)
def peekS (E : SEnv) (s : SS) : ByteArray := if s.e = 0 then E.P.ws.getD s.next ByteArray.empty else ByteArray.empty
def failS (E : SEnv) (t : Nat) (e : Int) (s : SS) : SS := if s.e = 0 then { s with po := posS E t, e := e } else s
def expectS (E : SEnv) (w : ByteArray) (s : SS) : SS := if peekS E s = w then s.adv else failS E s.next 4 s
def listS (E : SEnv) (what : Nat) : List ByteArray := if what = 0 then E.P.F else if what = 1 then E.P.A else E.P.X
def nameS (E : SEnv) (what : Nat) (s : SS) : Nat × SS :=
  if nameOk (peekS E s) = false then (0, failS E s.next 4 s) else
  if Lib.idxOfS (listS E what) (peekS E s) < 0 then (0, failS E s.next 5 s) else ((Lib.idxOfS (listS E what) (peekS E s)).toNat, s.adv)
def eventS (E : SEnv) (s : SS) : Nat × SS :=
  if (decide ((peekS E s).size ≠ 0) && digN (headN (peekS E s))) = false then (0, failS E s.next 4 s) else
  if 1 < (peekS E s).size ∨ 8 ≤ headN (peekS E s) - 48 then (0, failS E s.next 2 s) else (headN (peekS E s) - 48, s.adv)
def addS (n : Nd) (s : SS) : Option (Nat × SS) := if s.nodes.length ≤ 1000000 then some ((putNd s.nodes n).1, { s with nodes := (putNd s.nodes n).2 }) else none
def sbind (r : Option (Nat × SS)) (k : Nat → SS → Option (Nat × SS)) : Option (Nat × SS) := match r with | some p => k p.1 p.2 | none => none
/-- the next agent of a group, behind the comma -/
def oneS (E : SEnv) (g : Nat) (s : SS) : Nat × SS := (g ||| 2 ^ (nameS E 1 s).1, if g.testBit (nameS E 1 s).1 = true then failS E s.next 7 (nameS E 1 s).2 else (nameS E 1 s).2)
def agentsLS (E : SEnv) : Nat → Nat → SS → Option (Nat × SS)
  | 0, _, _ => none
  | f + 1, g, s => if peekS E s = ⟨#[44]⟩ then agentsLS E f (oneS E g s.adv).1 (oneS E g s.adv).2 else some (g, s)
def agentsS (E : SEnv) (s : SS) : Option (Nat × SS) := agentsLS E (E.P.ws.length + 2) (2 ^ (nameS E 1 s).1) (nameS E 1 s).2
def RunS := SS → Option (Nat × SS)
def plainS (R : RunS) (op : Int) : RunS := fun s => sbind (R s.adv) fun x s => addS ⟨op, 0, 0, 0, x, 0⟩ s
def constS (op : Int) : RunS := fun s => addS ⟨op, 0, 0, 0, 0, 0⟩ s.adv
def ofAgentS (E : SEnv) (R : RunS) (op : Int) : RunS := fun s =>
  sbind (R (expectS E ⟨#[93]⟩ (nameS E 1 (expectS E ⟨#[91]⟩ s.adv)).2)) fun x s2 => addS ⟨op, ((nameS E 1 (expectS E ⟨#[91]⟩ s.adv)).1 : Nat), 0, 0, x, 0⟩ s2
def ofGroupS (E : SEnv) (R : RunS) (op : Int) : RunS := fun s =>
  sbind (agentsS E (expectS E ⟨#[91]⟩ s.adv)) fun g s => sbind (R (expectS E ⟨#[93]⟩ s)) fun x s => addS ⟨op, 0, 0, g, x, 0⟩ s
def condS (E : SEnv) (F : RunS) : RunS := fun s => if peekS E s = ⟨#[124]⟩ then F s.adv else addS ⟨1, 0, 0, 0, 0, 0⟩ s
def beliefS (E : SEnv) (R F : RunS) : RunS := fun s =>
  sbind (condS E F (nameS E 1 (expectS E ⟨#[91]⟩ s.adv)).2) fun c s1 => sbind (R (expectS E ⟨#[93]⟩ s1)) fun x s2 => addS ⟨14, ((nameS E 1 (expectS E ⟨#[91]⟩ s.adv)).1 : Nat), 0, 0, c, x⟩ s2
def commonS (E : SEnv) (R F : RunS) : RunS := fun s =>
  sbind (agentsS E (expectS E ⟨#[91]⟩ s.adv)) fun g s => sbind (condS E F s) fun c s => sbind (R (expectS E ⟨#[93]⟩ s)) fun x s => addS ⟨13, 0, 0, g, c, x⟩ s
def announceS (E : SEnv) (R F : RunS) : RunS := fun s => sbind (F s) fun c s => sbind (R (expectS E ⟨#[93]⟩ s)) fun x s => addS ⟨16, 0, 0, 0, c, x⟩ s
def actS (E : SEnv) (R : RunS) : RunS := fun s =>
  sbind (R (expectS E ⟨#[93]⟩ (eventS E (expectS E ⟨#[46]⟩ (nameS E 2 s).2)).2)) fun x s2 => addS ⟨17, ((nameS E 2 s).1 : Nat), ((eventS E (expectS E ⟨#[46]⟩ (nameS E 2 s).2)).1 : Nat), 0, x, 0⟩ s2
def updateS (E : SEnv) (R F : RunS) : RunS := fun s => if peekS E s.adv = ⟨#[33]⟩ then announceS E R F s.adv.adv else actS E R s.adv
def enclosedS (E : SEnv) (F : RunS) : RunS := fun s => sbind (F s.adv) fun x s => some (x, expectS E ⟨#[41]⟩ s)
def factS (E : SEnv) : RunS := fun s => addS ⟨3, ((nameS E 0 s).1 : Nat), 0, 0, 0, 0⟩ (nameS E 0 s).2
def preS (E : SEnv) (R F : RunS) : RunS := fun s =>
  if peekS E s = ⟨#[126]⟩ then plainS R 4 s else if peekS E s = ⟨#[110, 101, 120, 116]⟩ then plainS R 18 s else if peekS E s = ⟨#[112, 114, 101, 118]⟩ then plainS R 20 s
  else if peekS E s = ⟨#[75]⟩ then ofAgentS E R 9 s else if peekS E s = ⟨#[77]⟩ then ofAgentS E R 10 s else if peekS E s = ⟨#[83]⟩ then ofAgentS E R 15 s
  else if peekS E s = ⟨#[66]⟩ then beliefS E R F s
  else if peekS E s = ⟨#[69]⟩ then ofGroupS E R 11 s else if peekS E s = ⟨#[68]⟩ then ofGroupS E R 12 s
  else if peekS E s = ⟨#[67]⟩ then commonS E R F s
  else if peekS E s = ⟨#[91]⟩ then updateS E R F s
  else if peekS E s = ⟨#[116, 114, 117, 101]⟩ then constS 1 s else if peekS E s = ⟨#[102, 97, 108, 115, 101]⟩ then constS 2 s
  else if peekS E s = ⟨#[40]⟩ then enclosedS E F s
  else factS E s
def leftS (E : SEnv) (w : ByteArray) (op : Int) (R : RunS) (L : Nat → RunS) (x : Nat) : RunS := fun s =>
  if peekS E s = w then sbind (R s.adv) fun y s => sbind (addS ⟨op, 0, 0, 0, x, y⟩ s) fun k s => L k s else some (x, s)
def mS (E : SEnv) : Nat → Rule → RunS
  | 0, _ => fun _ => none
  | n + 1, .formula => fun s => sbind (mS E n .implies s) fun x s => mS E n (.iffL x) s
  | n + 1, .iffL x => leftS E ⟨#[60, 45, 62]⟩ 8 (mS E n .implies) (fun k => mS E n (.iffL k)) x
  | n + 1, .implies => fun s => sbind (mS E n .time s) fun x s => if peekS E s = ⟨#[45, 62]⟩ then sbind (mS E n .implies s.adv) fun y s => addS ⟨7, 0, 0, 0, x, y⟩ s else some (x, s)
  | n + 1, .time => fun s => sbind (mS E n .or s) fun x s =>
    if peekS E s = ⟨#[117, 110, 116, 105, 108]⟩ then sbind (mS E n .time s.adv) fun y s => addS ⟨19, 0, 0, 0, x, y⟩ s
    else if peekS E s = ⟨#[115, 105, 110, 99, 101]⟩ then sbind (mS E n .time s.adv) fun y s => addS ⟨21, 0, 0, 0, x, y⟩ s
    else some (x, s)
  | n + 1, .or => fun s => sbind (mS E n .and s) fun x s => mS E n (.orL x) s
  | n + 1, .orL x => leftS E ⟨#[124]⟩ 6 (mS E n .and) (fun k => mS E n (.orL k)) x
  | n + 1, .and => fun s => sbind (mS E n .pre s) fun x s => mS E n (.andL x) s
  | n + 1, .andL x => leftS E ⟨#[38]⟩ 5 (mS E n .pre) (fun k => mS E n (.andL k)) x
  | n + 1, .pre => preS E (mS E n .pre) (mS E n .formula)
/- bounds of what comes out -/
theorem sbind_some {r : Option (Nat × SS)} {k : Nat → SS → Option (Nat × SS)} {p : Nat × SS} (h : sbind r k = some p) : ∃ x s, r = some (x, s) ∧ k x s = some p := by
  cases r with
  | none => exact absurd h (by simp [sbind])
  | some q => exact ⟨q.1, q.2, rfl, h⟩
theorem addS_some {n : Nd} {s s' : SS} {v : Nat} (h : addS n s = some (v, s')) : s.nodes.length ≤ 1000000 ∧ v = (putNd s.nodes n).1 ∧ s' = { s with nodes := (putNd s.nodes n).2 } := by
  unfold addS at h
  split at h
  · rename_i hl
    injection h with h
    injection h with h1 h2
    exact ⟨hl, h1.symm, h2.symm⟩
  · cases h
theorem put_le (l : List Nd) (n : Nd) : (putNd l n).1 ≤ l.length := by
  unfold putNd
  split
  · exact List.idxOf_le_length
  · exact Nat.le_refl _
theorem put_len (l : List Nd) (n : Nd) : (putNd l n).2.length ≤ l.length + 1 := by
  unfold putNd
  split
  · exact Nat.le_succ _
  · simp
theorem addS_le {n : Nd} {s s' : SS} {v : Nat} (h : addS n s = some (v, s')) : v ≤ 1000000 := by
  obtain ⟨h1, rfl, _⟩ := addS_some h
  exact Nat.le_trans (put_le _ _) h1
def Rule.num : Rule → Nat
  | .iffL x => x
  | .orL x => x
  | .andL x => x
  | _ => 0
def LeS (o : Option (Nat × SS)) : Prop := ∀ p, o = some p → p.1 ≤ 1000000
theorem LeS.add {n : Nd} {s : SS} : LeS (addS n s) := fun p h => addS_le (s' := p.2) h
theorem LeS.bind {a : Option (Nat × SS)} {k : Nat → SS → Option (Nat × SS)} (ha : LeS a) (hk : ∀ x s, x ≤ 1000000 → LeS (k x s)) : LeS (sbind a k) := fun p h => by
  obtain ⟨x, s, h1, h2⟩ := sbind_some h
  exact hk x s (ha _ h1) p h2
theorem LeS.bind' {a : Option (Nat × SS)} {k : Nat → SS → Option (Nat × SS)} (hk : ∀ x s, LeS (k x s)) : LeS (sbind a k) := fun p h => by
  obtain ⟨x, s, h1, h2⟩ := sbind_some h
  exact hk x s p h2
theorem LeS.some {x : Nat} {s : SS} (h : x ≤ 1000000) : LeS (Option.some (x, s)) := fun p hp => by injection hp with hp; rw [← hp]; exact h
theorem LeS.ite {c : Prop} [Decidable c] {a b : Option (Nat × SS)} (h1 : LeS a) (h2 : LeS b) : LeS (if c then a else b) := by split <;> assumption
theorem LeS.left {E : SEnv} {w : ByteArray} {op : Int} {R : RunS} {L : Nat → RunS} {x : Nat} {s : SS} (hx : x ≤ 1000000) (hL : ∀ k s, k ≤ 1000000 → LeS (L k s)) : LeS (leftS E w op R L x s) := by
  unfold leftS
  exact LeS.ite (LeS.bind' (fun y s => LeS.bind LeS.add (fun k s hk => hL k s hk))) (LeS.some hx)
theorem LeS.pre {E : SEnv} {R F : RunS} (hF : ∀ s, LeS (F s)) (s : SS) : LeS (preS E R F s) := by
  have hp : ∀ op s, LeS (plainS R op s) := fun op s => LeS.bind' (fun x s => LeS.add)
  have ha : ∀ op s, LeS (ofAgentS E R op s) := fun op s => LeS.bind' (fun x s => LeS.add)
  have hg : ∀ op s, LeS (ofGroupS E R op s) := fun op s => LeS.bind' (fun x s => LeS.bind' (fun x s => LeS.add))
  have hb : ∀ s, LeS (beliefS E R F s) := fun s => LeS.bind' (fun x s => LeS.bind' (fun x s => LeS.add))
  have hc : ∀ s, LeS (commonS E R F s) := fun s => LeS.bind' (fun x s => LeS.bind' (fun x s => LeS.bind' (fun x s => LeS.add)))
  have hn : ∀ s, LeS (announceS E R F s) := fun s => LeS.bind' (fun x s => LeS.bind' (fun x s => LeS.add))
  have ht : ∀ s, LeS (actS E R s) := fun s => LeS.bind' (fun x s => LeS.add)
  have hu : ∀ s, LeS (updateS E R F s) := fun s => LeS.ite (hn _) (ht _)
  have hk : ∀ op s, LeS (constS op s) := fun op s => LeS.add
  have he : ∀ s, LeS (enclosedS E F s) := fun s => LeS.bind (hF _) (fun x s hx => LeS.some hx)
  have hf : ∀ s, LeS (factS E s) := fun s => LeS.add
  unfold preS
  exact LeS.ite (hp _ _) (LeS.ite (hp _ _) (LeS.ite (hp _ _) (LeS.ite (ha _ _) (LeS.ite (ha _ _) (LeS.ite (ha _ _) (LeS.ite (hb _) (LeS.ite (hg _ _) (LeS.ite (hg _ _) (LeS.ite (hc _) (LeS.ite (hu _) (LeS.ite (hk _ _) (LeS.ite (hk _ _) (LeS.ite (he _) (hf _))))))))))))))
theorem mS_le (E : SEnv) : ∀ (n : Nat) (rule : Rule) (s : SS), rule.num ≤ 1000000 → LeS (mS E n rule s) := by
  intro n
  induction n with
  | zero => intro rule s _ p h; exact absurd h (by simp [mS])
  | succ n ih =>
    intro rule s hx
    cases rule with
    | formula => exact LeS.bind (ih .implies s (Nat.zero_le _)) (fun x s h => ih (.iffL x) s h)
    | or => exact LeS.bind (ih .and s (Nat.zero_le _)) (fun x s h => ih (.orL x) s h)
    | and => exact LeS.bind (ih .pre s (Nat.zero_le _)) (fun x s h => ih (.andL x) s h)
    | iffL x => exact LeS.left hx (fun k s h => ih (.iffL k) s h)
    | orL x => exact LeS.left hx (fun k s h => ih (.orL k) s h)
    | andL x => exact LeS.left hx (fun k s h => ih (.andL k) s h)
    | implies =>
      unfold mS
      exact LeS.bind (ih .time s (Nat.zero_le _)) (fun x s h => LeS.ite (LeS.bind' (fun y s => LeS.add)) (LeS.some h))
    | time =>
      unfold mS
      exact LeS.bind (ih .or s (Nat.zero_le _)) (fun x s h => LeS.ite (LeS.bind' (fun y s => LeS.add)) (LeS.ite (LeS.bind' (fun y s => LeS.add)) (LeS.some h)))
    | pre => exact LeS.pre (fun s => ih .formula s (Nat.zero_le _)) s
theorem idxT_lt (l : List ByteArray) (w : ByteArray) (h : ¬ Lib.idxOfS l w < 0) : (Lib.idxOfS l w).toNat < l.length := by
  by_cases hm : w ∈ l
  · obtain ⟨k, hk, e, _⟩ := idx_mem hm
    rw [e]; simpa using hk
  · rw [idx_miss hm] at h; omega
theorem nameS_lt (E : SEnv) (what : Nat) (s : SS) : (nameS E what s).1 < max 1 (listS E what).length := by
  unfold nameS
  split
  · show 0 < _; omega
  · split
    · show 0 < _; omega
    · rename_i h
      have := idxT_lt _ _ h
      show (Lib.idxOfS _ _).toNat < _
      omega
theorem agent_lt {E : SEnv} (hA : E.P.A.length ≤ 4) (s : SS) : (nameS E 1 s).1 < 4 := by
  have := nameS_lt E 1 s
  have e : listS E 1 = E.P.A := rfl
  rw [e] at this
  omega
theorem pow_lt16 {a : Nat} (h : a < 4) : 2 ^ a < 16 := Nat.pow_lt_pow_right (a := 2) (by decide) h
theorem agentsLS_lt {E : SEnv} (hA : E.P.A.length ≤ 4) : ∀ (n g : Nat) (s : SS) (p : Nat × SS), g < 16 → agentsLS E n g s = some p → p.1 < 16 := by
  intro n
  induction n with
  | zero => intro g s p _ h; exact absurd h (by simp [agentsLS])
  | succ n ih =>
    intro g s p hg h
    unfold agentsLS at h
    split at h
    · exact ih _ _ p (Nat.or_lt_two_pow (n := 4) hg (pow_lt16 (agent_lt hA _))) h
    · injection h with h; rw [← h]; exact hg
theorem agentsS_lt {E : SEnv} (hA : E.P.A.length ≤ 4) {s : SS} {p : Nat × SS} (h : agentsS E s = some p) : p.1 < 16 := agentsLS_lt hA _ _ _ _ (pow_lt16 (agent_lt hA _)) h
theorem eventS_lt (E : SEnv) (s : SS) : (eventS E s).1 < 8 := by
  unfold eventS
  split
  · show 0 < _; decide
  · split
    · show 0 < _; decide
    · rename_i h
      show headN _ - 48 < 8
      omega
end Go.Proofs.Ws
