/- Layer 6: texts joined: Mx Na. -/
import Derived.Test.YtkkkomkljpolbaaDoorJl
/- Layer 5: the law's own ways to build: with a constructor of the program, and as specified. -/
namespace Go.Proofs.Ws
open Go
end Go.Proofs.Ws
namespace Go.Proofs.YtkkkomkljpolbaaDoor
open Go.RowKit Go.Proofs.Ws Go.Maps
end Go.Proofs.YtkkkomkljpolbaaDoor
/- Layer 5: what building means for trees; every formula is built from its operands. -/
namespace Go.Proofs.YtkkkomkljpolbaaDoor
open Go.RowKit Go.Proofs.Ws Go.Maps
theorem bare_shift (s : Nat) (n : Nd) : bare (shiftN s n) = bare n := rfl
/-- a list that stands behind another one keeps its trees -/
theorem treeAt_app {l f : List Nd} (h : opsL (l ++ f.map (shiftN l.length))) (hf : opsL f) : ∀ (k i : Nat), i < k → i < f.length → treeAt (l ++ f.map (shiftN l.length)) (l.length + i) = treeAt f i := by
  intro k
  induction k with
  | zero => intro i h; omega
  | succ k ih =>
    intro i hk hi
    have ho := hf i hi
    have hlen : l.length + i < (l ++ f.map (shiftN l.length)).length := by rw [List.length_append, List.length_map]; omega
    have hg : (l ++ f.map (shiftN l.length)).getD (l.length + i) nd0 = shiftN l.length (f.getD i nd0) := by
      rw [List.getD_eq_getElem?_getD, List.getElem?_append_right (by omega), show l.length + i - l.length = i from by omega, List.getElem?_map]
      simp [hi]
    rw [treeAt_eq h hlen, treeAt_eq hf hi, hg, bare_shift]
    have hop : (shiftN l.length (f.getD i nd0)).op = (f.getD i nd0).op := rfl
    rw [hop]
    by_cases hy : usesY (f.getD i nd0).op = true
    · rw [if_pos hy, if_pos hy]
      have hx := usesY_X hy
      have h1 := opsOk_x ho hx
      have h2 := opsOk_y ho hy
      have e1 : (shiftN l.length (f.getD i nd0)).x.toNat = l.length + (f.getD i nd0).x.toNat := by
        show (if usesX (f.getD i nd0).op = true then (f.getD i nd0).x + (l.length : Int) else _).toNat = _
        rw [if_pos hx]; omega
      have e2 : (shiftN l.length (f.getD i nd0)).y.toNat = l.length + (f.getD i nd0).y.toNat := by
        show (if usesY (f.getD i nd0).op = true then (f.getD i nd0).y + (l.length : Int) else _).toNat = _
        rw [if_pos hy]; omega
      rw [e1, e2, ih _ (by omega) (by omega), ih _ (by omega) (by omega)]
    · rw [if_neg hy, if_neg hy]
      by_cases hx : usesX (f.getD i nd0).op = true
      · rw [if_pos hx, if_pos hx]
        have h1 := opsOk_x ho hx
        have e1 : (shiftN l.length (f.getD i nd0)).x.toNat = l.length + (f.getD i nd0).x.toNat := by
          show (if usesX (f.getD i nd0).op = true then (f.getD i nd0).x + (l.length : Int) else _).toNat = _
          rw [if_pos hx]; omega
        rw [e1, ih _ (by omega) (by omega)]
      · rw [if_neg hx, if_neg hx]
theorem treeAt_left {l r : List Nd} (h : opsL (l ++ r)) {i : Nat} (hi : i < l.length) : treeAt (l ++ r) i = treeAt l i := by
  have := treeAt_take h l.length (i + 1) i (by omega) hi (by rw [List.length_append]; omega)
  rw [List.take_left] at this
  exact this.symm
/-- the tree of a formula -/
def treeOf (f : List Nd) : Tr := treeAt f (f.length - 1)
def shortT (t : Tr) : List Nd := if 200 < (canT t).length then [] else canT t
theorem treeOf_snoc {l : List Nd} {n : Nd} (h : opsL (l ++ [n])) : treeOf (l ++ [n]) = (if usesY n.op = true then .bin (bare n) (treeAt l n.x.toNat) (treeAt l n.y.toNat) else if usesX n.op = true then .un (bare n) (treeAt l n.x.toNat) else .leaf (bare n)) := by
  unfold treeOf
  have hl : (l ++ [n]).length - 1 = l.length := by simp
  have hg : (l ++ [n]).getD l.length nd0 = n := getD_some (by simp)
  have ho := h l.length (by simp)
  rw [hg] at ho
  rw [hl, treeAt_eq h (by simp), hg]
  by_cases hy : usesY n.op = true
  · rw [if_pos hy, if_pos hy]
    have h1 := opsOk_x ho (usesY_X hy)
    have h2 := opsOk_y ho hy
    rw [treeAt_left h h1.2, treeAt_left h h2.2]
  · rw [if_neg hy, if_neg hy]
    by_cases hx : usesX n.op = true
    · rw [if_pos hx, if_pos hx]
      have h1 := opsOk_x ho hx
      rw [treeAt_left h h1.2]
    · rw [if_neg hx, if_neg hx]
theorem build_leaf {n : Nd} (hk : known n.op = true) (hc : cleanN n) (hr : rangeOk n = true) (hb : bare n = n) (hux : usesX n.op = false) : buildF n [] = canT (.leaf n) := by
  obtain ⟨hx, hy⟩ := bare_x hb
  rw [buildF_one hk hc hx hy hux]
  have huy : usesY n.op = false := by
    cases h : usesY n.op with
    | false => rfl
    | true => have := usesY_X h; rw [hux] at this; cases this
  have ho : opsOk n 0 := ⟨by rw [if_neg (by rw [hux]; decide)]; exact hx, by rw [if_neg (by rw [huy]; decide)]; exact hy⟩
  have hn : nodeErr n 0 = 0 ↔ rangeOk n = true := node_build (n' := n) hk hc ho rfl rfl rfl rfl
  unfold oneF
  rw [if_pos (hn.2 hr)]
  simp [canT, finT, putNd]
theorem build_un {n : Nd} {f : List Nd} (hk : known n.op = true) (hc : cleanN n) (hr : rangeOk n = true) (hb : bare n = n) (hux : usesX n.op = true) (huy : usesY n.op = false) (hf : fErr f = 0) : buildF n [f] = shortT (.un n (treeOf f)) := by
  obtain ⟨hx, hy⟩ := bare_x hb
  have hne : f.length ≠ 0 := by simpa using (fErr_ok hf).1
  have hok := (fin_1 n f hk hc hy hux huy hr (by intro g hg; simp at hg; rw [hg]; exact hf)).1
  have e : catKn [f] [f].length = f := by simp [catKn, catS, map_shift0]
  rw [e] at hok
  unfold buildF
  rw [if_neg (by rw [hr]; decide), if_neg (by simp [hf])]
  have e2 : catS [f] [] = f := by simp [catS, map_shift0]
  rw [e2]
  have hcan : canonF (f ++ [lastN n [f]]) = canT (.un n (treeOf f)) := by
    rw [canonF_tree hok.ops hok.ne]
    show canT (treeOf (f ++ [lastN n [f]])) = _
    rw [treeOf_snoc hok.ops]
    have ho : (lastN n [f]).op = n.op := rfl
    rw [ho, if_neg (by rw [huy]; decide), if_pos hux]
    have hbx : bare (lastN n [f]) = n := by rw [← hb]; rfl
    have hxx : (lastN n [f]).x.toNat = f.length - 1 := by show ((f.length : Int) - 1).toNat = _; omega
    rw [hbx, hxx]; rfl
  rw [hcan]; rfl
theorem build_bin {n : Nd} {f g : List Nd} (hk : known n.op = true) (hc : cleanN n) (hr : rangeOk n = true) (hb : bare n = n) (hux : usesX n.op = true) (huy : usesY n.op = true) (hf : fErr f = 0) (hg : fErr g = 0) : buildF n [f, g] = shortT (.bin n (treeOf f) (treeOf g)) := by
  have hne : f.length ≠ 0 := by simpa using (fErr_ok hf).1
  have hne2 : g.length ≠ 0 := by simpa using (fErr_ok hg).1
  have hok := (fin_2 n f g hk hc hux huy hr (by intro h hh; simp at hh; rcases hh with rfl | rfl <;> assumption)).1
  have e : catKn [f, g] [f, g].length = f ++ g.map (shiftN f.length) := by simp [catKn, catS, map_shift0]
  rw [e] at hok
  unfold buildF
  rw [if_neg (by rw [hr]; decide), if_neg (by simp [hf, hg])]
  have e2 : catS [f, g] [] = f ++ g.map (shiftN f.length) := by simp [catS, map_shift0]
  rw [e2]
  obtain ⟨hol, _⟩ := catL_ok hf hg
  have hcan : canonF (f ++ g.map (shiftN f.length) ++ [lastN n [f, g]]) = canT (.bin n (treeOf f) (treeOf g)) := by
    rw [canonF_tree hok.ops hok.ne]
    show canT (treeOf (f ++ g.map (shiftN f.length) ++ [lastN n [f, g]])) = _
    rw [treeOf_snoc hok.ops]
    have ho : (lastN n [f, g]).op = n.op := rfl
    rw [ho, if_pos huy]
    have hbx : bare (lastN n [f, g]) = n := by rw [← hb]; rfl
    have hxx : (lastN n [f, g]).x.toNat = f.length - 1 := by show ((f.length : Int) - 1).toNat = _; omega
    have hyy : (lastN n [f, g]).y.toNat = f.length + (g.length - 1) := by show ((f.length + g.length : Int) - 1).toNat = _; omega
    rw [hbx, hxx, hyy, treeAt_left hol (by omega), treeAt_app hol (fErr_ops hg) _ _ (Nat.lt_succ_self _) (by omega)]
    rfl
  rw [hcan]; rfl
end Go.Proofs.YtkkkomkljpolbaaDoor
