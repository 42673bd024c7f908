/- Layer 6: texts joined: Mf Fr38 Mu Mv Mw Mx Me Kpa Kzd Mr Na. -/
import Derived.Test.YtjpmhbnikoggaaaGreatDoorNJf
import Derived.Test.YtjpmhbnikoggaaaGreatDoorNJi
import Derived.Test.YtjpmhbnikoggaaaGreatDoorNJk
import Derived.Test.YtjpmhbnikoggaaaGreatDoorNJl
import Derived.Laws.BitsLemmas
/- Layer 5: the masks of the program: fragments, facts, agents. -/
namespace Go.Proofs.Ws
open Go
end Go.Proofs.Ws
namespace Go.Proofs.YtjpmhbnikoggaaaGreatDoor
open Go.RowKit Go.Proofs.Ws Go.Maps
end Go.Proofs.YtjpmhbnikoggaaaGreatDoor
/- Layer 15: defects and axioms as plain mathematics (FramesShows). -/
namespace Go.Proofs.YtjpmhbnikoggaaaGreatDoor
open Go.RowKit Go.Proofs.Ws
set_option maxRecDepth 100000
theorem witP_ex {n : Nat} {p : Int} {l y : List Nat} (hy : DigL n (lenP p) y) (hs : shB p l y = true) : ∃ x, WitP n p l x := by
  have key : ∀ k, ∀ y, DigL n (lenP p) y → shB p l y = true → numV n y = k → ∃ x, WitP n p l x := by
    intro k
    induction k using Nat.strongRecOn with
    | _ k ih =>
      intro y hy hs hk
      by_cases h : ∃ z, DigL n (lenP p) z ∧ shB p l z = true ∧ numV n z < k
      · obtain ⟨z, h1, h2, h3⟩ := h
        exact ih _ h3 z h1 h2 rfl
      · refine ⟨y, hy, hs, fun z hz hzs => ?_⟩
        rcases Nat.lt_or_ge (numV n z) (numV n y) with h4 | h4
        · exact absurd ⟨z, hz, hzs, by omega⟩ h
        · exact h4
  exact key _ y hy hs rfl
theorem witO_iff {n : Nat} {p : Int} {l : List Nat} (hs : Sh n l) (hp : 1 ≤ p ∧ p ≤ 5) : witO p l = none ↔ HasP n p l := by
  have hl := hs.1
  subst hl
  rw [lack_iff hs hp]
  constructor
  · intro h y hy
    cases hb : shB p l y with
    | false => rfl
    | true =>
      obtain ⟨x, hx⟩ := witP_ex hy hb
      rw [witO_some hx] at h
      cases h
  · exact witO_none
end Go.Proofs.YtjpmhbnikoggaaaGreatDoor
/- Layer 5: the builders of the reference: short, One, Unary, Binary. -/
namespace Go.Proofs.Ws
open Go
end Go.Proofs.Ws
namespace Go.Proofs.YtjpmhbnikoggaaaGreatDoor
open Go.RowKit Go.Proofs.Ws Go.Maps
end Go.Proofs.YtjpmhbnikoggaaaGreatDoor
/- Layer 5: Binary of the reference. -/
namespace Go.Proofs.YtjpmhbnikoggaaaGreatDoor
open Go.RowKit Go.Proofs.Ws Go.Maps
theorem catL_ok {f g : List Nd} (hf : fErr f = 0) (hg : fErr g = 0) : opsL (f ++ g.map (shiftN f.length)) ∧ ∀ m ∈ f ++ g.map (shiftN f.length), fldOk m := by
  have h := catK_ok [f, g] (by intro h hh; simp at hh; rcases hh with rfl | rfl <;> assumption) 2 (by simp)
  have e : catK [f, g] 2 = f ++ g.map (shiftN f.length) := by
    have hs : f.map (shiftN 0) = f := by
      have : ∀ l : List Nd, l.map (shiftN 0) = l := by
        intro l
        induction l with
        | nil => rfl
        | cons a l ih =>
          rw [List.map_cons, ih]
          congr 1
          obtain ⟨o, i, e, g', x, y⟩ := a
          simp [shiftN]
      exact this f
    simp [catK, catS, hs]
  rw [e] at h
  exact ⟨h.1, h.2.1⟩
end Go.Proofs.YtjpmhbnikoggaaaGreatDoor
/- Layer 5: both ways of building give the same formula. -/
namespace Go.Proofs.YtjpmhbnikoggaaaGreatDoor
open Go.RowKit Go.Proofs.Ws Go.Maps
/-- the fields that an operator does not use are 0, but for its operands -/
def cleanN (n : Nd) : Prop := (n.op = 3 ∨ hasAgent n.op = true ∨ n.op = 17 ∨ n.i = 0) ∧ (n.op = 17 ∨ n.e = 0) ∧ (hasGroup n.op = true ∨ n.g = 0)
theorem map_shift0 : ∀ l : List Nd, l.map (shiftN 0) = l := by
  intro l
  induction l with
  | nil => rfl
  | cons a l ih =>
    rw [List.map_cons, ih]
    congr 1
    obtain ⟨o, i, e, g', x, y⟩ := a
    simp [shiftN]
end Go.Proofs.YtjpmhbnikoggaaaGreatDoor
/- Layer 5: the law's own ways to build: with a constructor of the program, and as specified. -/
namespace Go.Proofs.Ws
open Go
end Go.Proofs.Ws
namespace Go.Proofs.YtjpmhbnikoggaaaGreatDoor
open Go.RowKit Go.Proofs.Ws Go.Maps
end Go.Proofs.YtjpmhbnikoggaaaGreatDoor
/- Layer 5: Depth of the program. -/
namespace Go.Proofs.Ws
open Go
end Go.Proofs.Ws
namespace Go.Proofs.YtjpmhbnikoggaaaGreatDoor
open Go.RowKit Go.Proofs.Ws Go.Maps
/-- block g holds just these numbers -/
def DS (W : World) (g : Nat) (l : List Int) : Prop := W.heap[g]? = some (.cells (is l).toArray 3 (0, 0))
theorem DS.cell {W : World} {g : Nat} {l : List Int} (h : DS W g l) {k : Nat} (hk : k < l.length) : W.cell? ⟨g, k, none⟩ = some (.int .i64 (l.getD k 0)) := by
  rw [Lib.cell_of_heap h]
  simp [is, hk]
theorem DS.free {W : World} {g : Nat} {l : List Int} (h : DS W g l) (k : Nat) : W.frozen? ⟨g, k, none⟩ = false := Lib.frozen_of_heap h k
theorem DS.put {W : World} {g : Nat} {l : List Int} (h : DS W g l) (k : Nat) (x : Int) : DS (W.setCell ⟨g, k, none⟩ (.int .i64 x)) g (l.set k x) := by
  unfold DS at h ⊢
  have e : (is (l.set k x)).toArray = (is l).toArray.setIfInBounds k (.int .i64 x) := by
    unfold is
    rw [List.map_set]
    simp
  rw [e]
  simp [World.setCell, Array.getElem?_modify, h]
theorem DS.keep {W W' : World} {g : Nat} {l : List Int} (h : DS W g l) (hb : W'.heap[g]? = W.heap[g]?) : DS W' g l := hb.trans h
end Go.Proofs.YtjpmhbnikoggaaaGreatDoor
/- Layer 5 as plain mathematics: subtrees, which nodes are used, lengths of canonical lists. -/
namespace Go.Proofs.Ws
open Go
def szT : Tr → Nat
  | .leaf _ => 1
  | .un _ a => szT a + 1
  | .bin _ a b => szT a + szT b + 1
/-- a tree within a tree -/
def subT (s : Tr) : Tr → Prop
  | .leaf n => s = .leaf n
  | .un n a => s = .un n a ∨ subT s a
  | .bin n a b => s = .bin n a b ∨ subT s a ∨ subT s b
theorem subT_sz {s : Tr} : ∀ {t : Tr}, subT s t → szT s ≤ szT t
  | .leaf n, h => by have h : s = .leaf n := h; rw [h]; exact Nat.le_refl _
  | .un n a, h => by
    rcases h with h | h
    · rw [h]; exact Nat.le_refl _
    · have := subT_sz h
      show szT s ≤ szT a + 1
      omega
  | .bin n a b, h => by
    rcases h with h | h | h
    · rw [h]; exact Nat.le_refl _
    · have := subT_sz h
      show szT s ≤ szT a + szT b + 1
      omega
    · have := subT_sz h
      show szT s ≤ szT a + szT b + 1
      omega
theorem subT_ok {s : Tr} : ∀ {t : Tr}, subT s t → trOk t → trOk s
  | .leaf n, h, hk => by have h : s = .leaf n := h; rw [h]; exact hk
  | .un n a, h, hk => by
    rcases h with h | h
    · rw [h]; exact hk
    · exact subT_ok h hk.2.2.2
  | .bin n a b, h, hk => by
    rcases h with h | h | h
    · rw [h]; exact hk
    · exact subT_ok h hk.2.2.2.1
    · exact subT_ok h hk.2.2.2.2
/-- what is put new stands for a tree within the tree -/
theorem finT_sub : ∀ (t : Tr) (o : List Nd) (k : Nat), o.length ≤ k → k < (finT t o).2.length → ∃ s, rep (finT t o).2 k s ∧ subT s t
  | .leaf n, o, k, h1, h2 => by
    have hl := putNd_len o n
    have e2 : (finT (.leaf n) o) = putNd o n := rfl
    rw [e2] at h2 ⊢
    have hk : k = (putNd o n).1 := by
      unfold putNd at h2 ⊢
      split
      · rename_i hm
        rw [if_pos hm] at h2
        have h2 : k < o.length := h2
        omega
      · rename_i hm
        rw [if_neg hm] at h2
        have h2 : k < (o ++ [n]).length := h2
        rw [List.length_append] at h2
        have h2 : k < o.length + 1 := h2
        show k = o.length
        omega
    rw [hk]
    exact ⟨.leaf n, putNd_at o n, rfl⟩
  | .un n a, o, k, h1, h2 => by
    have ih := finT_sub a o
    have e2 : (finT (.un n a) o) = putNd (finT a o).2 { n with x := ((finT a o).1 : Int) } := rfl
    have hrep := finT_rep (.un n a) o
    have hpre := putNd_pre (finT a o).2 { n with x := ((finT a o).1 : Int) }
    by_cases hk : k < (finT a o).2.length
    · obtain ⟨s, h3, h4⟩ := ih k h1 hk
      exact ⟨s, by rw [e2]; exact rep_mono hpre s k h3, .inr h4⟩
    · refine ⟨.un n a, ?_, .inl rfl⟩
      have hk2 : k = (finT (.un n a) o).1 := by
        rw [e2] at h2 ⊢
        unfold putNd at h2 ⊢
        split
        · rename_i hm
          rw [if_pos hm] at h2
          exact absurd h2 hk
        · rename_i hm
          rw [if_neg hm] at h2
          have h2 : k < ((finT a o).2 ++ [_]).length := h2
          rw [List.length_append] at h2
          have h2 : k < (finT a o).2.length + 1 := h2
          show k = (finT a o).2.length
          omega
      rw [hk2]; exact hrep
  | .bin n a b, o, k, h1, h2 => by
    have iha := finT_sub a o
    have ihb := finT_sub b (finT a o).2
    have e2 : (finT (.bin n a b) o) = putNd (finT b (finT a o).2).2 { n with x := ((finT a o).1 : Int), y := ((finT b (finT a o).2).1 : Int) } := rfl
    have hrep := finT_rep (.bin n a b) o
    have hpre := putNd_pre (finT b (finT a o).2).2 { n with x := ((finT a o).1 : Int), y := ((finT b (finT a o).2).1 : Int) }
    by_cases hk : k < (finT b (finT a o).2).2.length
    · by_cases hka : k < (finT a o).2.length
      · obtain ⟨s, h3, h4⟩ := iha k h1 hka
        exact ⟨s, by rw [e2]; exact rep_mono hpre s k (rep_mono (finT_pre b _) s k h3), .inr (.inl h4)⟩
      · obtain ⟨s, h3, h4⟩ := ihb k (by omega) hk
        exact ⟨s, by rw [e2]; exact rep_mono hpre s k h3, .inr (.inr h4)⟩
    · refine ⟨.bin n a b, ?_, .inl rfl⟩
      have hk2 : k = (finT (.bin n a b) o).1 := by
        rw [e2] at h2 ⊢
        unfold putNd at h2 ⊢
        split
        · rename_i hm
          rw [if_pos hm] at h2
          exact absurd h2 hk
        · rename_i hm
          rw [if_neg hm] at h2
          have h2 : k < ((finT b (finT a o).2).2 ++ [_]).length := h2
          rw [List.length_append] at h2
          have h2 : k < (finT b (finT a o).2).2.length + 1 := h2
          show k = (finT b (finT a o).2).2.length
          omega
      rw [hk2]; exact hrep
/-- the root is the last node -/
theorem canT_last {t : Tr} (ht : trOk t) : (finT t []).1 = (canT t).length - 1 := by
  have key : ∀ (o : List Nd) (m : Nd), finT t [] = putNd o m → (∀ k, k < o.length → ∃ s, rep o k s ∧ trOk s ∧ szT s < szT t) → opsL o → (finT t []).1 = (canT t).length - 1 := by
    intro o m he hs ho
    unfold canT
    rw [he]
    rcases putNd_lastOr o m with hm | h
    · exfalso
      have hrep := finT_rep t []
      rw [he] at hrep
      have e : putNd o m = (o.idxOf m, o) := by unfold putNd; rw [if_pos hm]
      rw [e] at hrep
      have hk : o.idxOf m < o.length := List.idxOf_lt_length_of_mem hm
      obtain ⟨s, h1, h2, h3⟩ := hs _ hk
      have t1 := rep_tree ho s _ h2 h1
      have t2 := rep_tree ho t _ ht hrep
      rw [t1] at t2
      rw [t2] at h3
      omega
    · exact h
  cases t with
  | leaf n =>
    exact key [] n rfl (fun k hk => absurd hk (by simp)) (fun i hi => absurd hi (by simp))
  | un n a =>
    have ha : trOk a := ht.2.2.2
    refine key (finT a []).2 _ rfl (fun k hk => ?_) (canT_ops ha)
    obtain ⟨s, h1, h2⟩ := finT_sub a [] k (Nat.zero_le _) hk
    have := subT_sz h2
    exact ⟨s, h1, subT_ok h2 ha, by show szT s < szT a + 1; omega⟩
  | bin n a b =>
    have ha : trOk a := ht.2.2.2.1
    have hb : trOk b := ht.2.2.2.2
    refine key (finT b (finT a []).2).2 _ rfl (fun k hk => ?_) (finT_ops b hb (canT_ops ha))
    by_cases hka : k < (finT a []).2.length
    · obtain ⟨s, h1, h2⟩ := finT_sub a [] k (Nat.zero_le _) hka
      have := subT_sz h2
      exact ⟨s, rep_mono (finT_pre b _) s k h1, subT_ok h2 ha, by show szT s < szT a + szT b + 1; omega⟩
    · obtain ⟨s, h1, h2⟩ := finT_sub b (finT a []).2 k (by omega) hk
      have := subT_sz h2
      exact ⟨s, h1, subT_ok h2 hb, by show szT s < szT a + szT b + 1; omega⟩
/-- the canonical list stands for the tree -/
theorem canT_tree {t : Tr} (ht : trOk t) : treeAt (canT t) ((canT t).length - 1) = t := by
  have h := finT_rep t []
  rw [canT_last ht] at h
  exact rep_tree (canT_ops ht) t _ ht h
theorem canT_ne (t : Tr) : canT t ≠ [] := fun e => by have := finT_lt t []; unfold canT at e; rw [e] at this; simp at this
/-- the canonical list of a canonical list is itself -/
theorem canonF_canT {t : Tr} (ht : trOk t) : canonF (canT t) = canT t := by
  rw [canonF_tree (canT_ops ht) (canT_ne t), canT_tree ht]
end Go.Proofs.Ws
namespace Go.Proofs.Ws
open Go
/-- node j uses node k -/
def uses (o : List Nd) (j k : Nat) : Prop := j < o.length ∧ ((usesX (o.getD j nd0).op = true ∧ (o.getD j nd0).x = (k : Int)) ∨ (usesY (o.getD j nd0).op = true ∧ (o.getD j nd0).y = (k : Int)))
end Go.Proofs.Ws
namespace Go.Proofs.Ws
open Go
end Go.Proofs.Ws
/-! Compare is an order (mathematics). -/
namespace Go.Proofs.Ws
open Go
/-- a comparison that is an order: -1, 0, 1 -/
structure Ord3 {α : Type} (c : α → α → Int) : Prop where
  vals : ∀ a b, c a b = -1 ∨ c a b = 0 ∨ c a b = 1
  anti : ∀ a b, c b a = -c a b
  trans : ∀ a b d, c a b ≤ 0 → c b d ≤ 0 → c a d = min (c a b) (c b d)
theorem Ord3.on {α β : Type} {c : β → β → Int} (h : Ord3 c) (f : α → β) : Ord3 (fun a b => c (f a) (f b)) :=
  ⟨fun _ _ => h.vals _ _, fun _ _ => h.anti _ _, fun _ _ _ => h.trans _ _ _⟩
end Go.Proofs.Ws
/- Layer 5: subformulas: depth, fragments, order (mathematics). -/
namespace Go.Proofs.YtjpmhbnikoggaaaGreatDoor
open Go.RowKit Go.Proofs.Ws Go.Maps
end Go.Proofs.YtjpmhbnikoggaaaGreatDoor
/- Layer 5: what building means for trees; every formula is built from its operands. -/
namespace Go.Proofs.YtjpmhbnikoggaaaGreatDoor
open Go.RowKit Go.Proofs.Ws Go.Maps
theorem bare_shift (s : Nat) (n : Nd) : bare (shiftN s n) = bare n := rfl
/-- a list that stands behind another one keeps its trees -/
theorem treeAt_app {l f : List Nd} (h : opsL (l ++ f.map (shiftN l.length))) (hf : opsL f) : ∀ (k i : Nat), i < k → i < f.length → treeAt (l ++ f.map (shiftN l.length)) (l.length + i) = treeAt f i := by
  intro k
  induction k with
  | zero => intro i h; omega
  | succ k ih =>
    intro i hk hi
    have ho := hf i hi
    have hlen : l.length + i < (l ++ f.map (shiftN l.length)).length := by rw [List.length_append, List.length_map]; omega
    have hg : (l ++ f.map (shiftN l.length)).getD (l.length + i) nd0 = shiftN l.length (f.getD i nd0) := by
      rw [List.getD_eq_getElem?_getD, List.getElem?_append_right (by omega), show l.length + i - l.length = i from by omega, List.getElem?_map]
      simp [hi]
    rw [treeAt_eq h hlen, treeAt_eq hf hi, hg, bare_shift]
    have hop : (shiftN l.length (f.getD i nd0)).op = (f.getD i nd0).op := rfl
    rw [hop]
    by_cases hy : usesY (f.getD i nd0).op = true
    · rw [if_pos hy, if_pos hy]
      have hx := usesY_X hy
      have h1 := opsOk_x ho hx
      have h2 := opsOk_y ho hy
      have e1 : (shiftN l.length (f.getD i nd0)).x.toNat = l.length + (f.getD i nd0).x.toNat := by
        show (if usesX (f.getD i nd0).op = true then (f.getD i nd0).x + (l.length : Int) else _).toNat = _
        rw [if_pos hx]; omega
      have e2 : (shiftN l.length (f.getD i nd0)).y.toNat = l.length + (f.getD i nd0).y.toNat := by
        show (if usesY (f.getD i nd0).op = true then (f.getD i nd0).y + (l.length : Int) else _).toNat = _
        rw [if_pos hy]; omega
      rw [e1, e2, ih _ (by omega) (by omega), ih _ (by omega) (by omega)]
    · rw [if_neg hy, if_neg hy]
      by_cases hx : usesX (f.getD i nd0).op = true
      · rw [if_pos hx, if_pos hx]
        have h1 := opsOk_x ho hx
        have e1 : (shiftN l.length (f.getD i nd0)).x.toNat = l.length + (f.getD i nd0).x.toNat := by
          show (if usesX (f.getD i nd0).op = true then (f.getD i nd0).x + (l.length : Int) else _).toNat = _
          rw [if_pos hx]; omega
        rw [e1, ih _ (by omega) (by omega)]
      · rw [if_neg hx, if_neg hx]
theorem treeAt_left {l r : List Nd} (h : opsL (l ++ r)) {i : Nat} (hi : i < l.length) : treeAt (l ++ r) i = treeAt l i := by
  have := treeAt_take h l.length (i + 1) i (by omega) hi (by rw [List.length_append]; omega)
  rw [List.take_left] at this
  exact this.symm
/-- the tree of a formula -/
def treeOf (f : List Nd) : Tr := treeAt f (f.length - 1)
def shortT (t : Tr) : List Nd := if 200 < (canT t).length then [] else canT t
theorem treeOf_snoc {l : List Nd} {n : Nd} (h : opsL (l ++ [n])) : treeOf (l ++ [n]) = (if usesY n.op = true then .bin (bare n) (treeAt l n.x.toNat) (treeAt l n.y.toNat) else if usesX n.op = true then .un (bare n) (treeAt l n.x.toNat) else .leaf (bare n)) := by
  unfold treeOf
  have hl : (l ++ [n]).length - 1 = l.length := by simp
  have hg : (l ++ [n]).getD l.length nd0 = n := getD_some (by simp)
  have ho := h l.length (by simp)
  rw [hg] at ho
  rw [hl, treeAt_eq h (by simp), hg]
  by_cases hy : usesY n.op = true
  · rw [if_pos hy, if_pos hy]
    have h1 := opsOk_x ho (usesY_X hy)
    have h2 := opsOk_y ho hy
    rw [treeAt_left h h1.2, treeAt_left h h2.2]
  · rw [if_neg hy, if_neg hy]
    by_cases hx : usesX n.op = true
    · rw [if_pos hx, if_pos hx]
      have h1 := opsOk_x ho hx
      rw [treeAt_left h h1.2]
    · rw [if_neg hx, if_neg hx]
theorem build_un {n : Nd} {f : List Nd} (hk : known n.op = true) (hc : cleanN n) (hr : rangeOk n = true) (hb : bare n = n) (hux : usesX n.op = true) (huy : usesY n.op = false) (hf : fErr f = 0) : buildF n [f] = shortT (.un n (treeOf f)) := by
  obtain ⟨hx, hy⟩ := bare_x hb
  have hne : f.length ≠ 0 := by simpa using (fErr_ok hf).1
  have hok := (fin_1 n f hk hc hy hux huy hr (by intro g hg; simp at hg; rw [hg]; exact hf)).1
  have e : catK [f] [f].length = f := by simp [catK, catS, map_shift0]
  rw [e] at hok
  unfold buildF
  rw [if_neg (by rw [hr]; decide), if_neg (by simp [hf])]
  have e2 : catS [f] [] = f := by simp [catS, map_shift0]
  rw [e2]
  have hcan : canonF (f ++ [lastN n [f]]) = canT (.un n (treeOf f)) := by
    rw [canonF_tree hok.ops hok.ne]
    show canT (treeOf (f ++ [lastN n [f]])) = _
    rw [treeOf_snoc hok.ops]
    have ho : (lastN n [f]).op = n.op := rfl
    rw [ho, if_neg (by rw [huy]; decide), if_pos hux]
    have hbx : bare (lastN n [f]) = n := by rw [← hb]; rfl
    have hxx : (lastN n [f]).x.toNat = f.length - 1 := by show ((f.length : Int) - 1).toNat = _; omega
    rw [hbx, hxx]; rfl
  rw [hcan]; rfl
theorem build_bin {n : Nd} {f g : List Nd} (hk : known n.op = true) (hc : cleanN n) (hr : rangeOk n = true) (hb : bare n = n) (hux : usesX n.op = true) (huy : usesY n.op = true) (hf : fErr f = 0) (hg : fErr g = 0) : buildF n [f, g] = shortT (.bin n (treeOf f) (treeOf g)) := by
  have hne : f.length ≠ 0 := by simpa using (fErr_ok hf).1
  have hne2 : g.length ≠ 0 := by simpa using (fErr_ok hg).1
  have hok := (fin_2 n f g hk hc hux huy hr (by intro h hh; simp at hh; rcases hh with rfl | rfl <;> assumption)).1
  have e : catK [f, g] [f, g].length = f ++ g.map (shiftN f.length) := by simp [catK, catS, map_shift0]
  rw [e] at hok
  unfold buildF
  rw [if_neg (by rw [hr]; decide), if_neg (by simp [hf, hg])]
  have e2 : catS [f, g] [] = f ++ g.map (shiftN f.length) := by simp [catS, map_shift0]
  rw [e2]
  obtain ⟨hol, _⟩ := catL_ok hf hg
  have hcan : canonF (f ++ g.map (shiftN f.length) ++ [lastN n [f, g]]) = canT (.bin n (treeOf f) (treeOf g)) := by
    rw [canonF_tree hok.ops hok.ne]
    show canT (treeOf (f ++ g.map (shiftN f.length) ++ [lastN n [f, g]])) = _
    rw [treeOf_snoc hok.ops]
    have ho : (lastN n [f, g]).op = n.op := rfl
    rw [ho, if_pos huy]
    have hbx : bare (lastN n [f, g]) = n := by rw [← hb]; rfl
    have hxx : (lastN n [f, g]).x.toNat = f.length - 1 := by show ((f.length : Int) - 1).toNat = _; omega
    have hyy : (lastN n [f, g]).y.toNat = f.length + (g.length - 1) := by show ((f.length + g.length : Int) - 1).toNat = _; omega
    rw [hbx, hxx, hyy, treeAt_left hol (by omega), treeAt_app hol (fErr_ops hg) _ _ (Nat.lt_succ_self _) (by omega)]
    rfl
  rw [hcan]; rfl
end Go.Proofs.YtjpmhbnikoggaaaGreatDoor
