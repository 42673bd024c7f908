/- Layer 6: texts joined: Mx Na. -/
import Derived.Test.YtkcedppepepgfaaDoorJl
/- Layer 5: the law's own ways to build: with a constructor of the program, and as specified. -/
namespace Go.Proofs.Ws
open Go
/-- the node of an operator with the numbers that it uses -/
def cleanP (k i e g : Int) : Nd := ⟨k, if decide (k = 3) || hasAgent k || decide (k = 17) then i else 0, if k = 17 then e else 0, if hasGroup k = true then g else 0, 0, 0⟩
/-- the formula of an operator at numbers and operands -/
def partsF (k i e g : Int) (f h : List Nd) : List Nd := if usesY k = true then buildF (cleanP k i e g) [f, h] else if usesX k = true then buildF (cleanP k i e g) [f] else buildF (cleanP k i e g) []
end Go.Proofs.Ws
namespace Go.Proofs.YtkcedppepepgfaaDoor
open Go.RowKit Go.Proofs.Ws Go.Maps
theorem partsF_un {n : Nd} {f h : List Nd} {k i e g : Int} (hn : cleanP k i e g = n) (hux : usesX k = true) (huy : usesY k = false) : partsF k i e g f h = buildF n [f] := by
  unfold partsF; rw [hux, huy, hn]; rfl
end Go.Proofs.YtkcedppepepgfaaDoor
/- Layer 5: what building means for trees; every formula is built from its operands. -/
namespace Go.Proofs.YtkcedppepepgfaaDoor
open Go.RowKit Go.Proofs.Ws Go.Maps
theorem bare_shift (s : Nat) (n : Nd) : bare (shiftN s n) = bare n := rfl
/-- a list that stands behind another one keeps its trees -/
theorem treeAt_app {l f : List Nd} (h : opsL (l ++ f.map (shiftN l.length))) (hf : opsL f) : ∀ (k i : Nat), i < k → i < f.length → treeAt (l ++ f.map (shiftN l.length)) (l.length + i) = treeAt f i := by
  intro k
  induction k with
  | zero => intro i h; omega
  | succ k ih =>
    intro i hk hi
    have ho := hf i hi
    have hlen : l.length + i < (l ++ f.map (shiftN l.length)).length := by rw [List.length_append, List.length_map]; omega
    have hg : (l ++ f.map (shiftN l.length)).getD (l.length + i) nd0 = shiftN l.length (f.getD i nd0) := by
      rw [List.getD_eq_getElem?_getD, List.getElem?_append_right (by omega), show l.length + i - l.length = i from by omega, List.getElem?_map]
      simp [hi]
    rw [treeAt_eq h hlen, treeAt_eq hf hi, hg, bare_shift]
    have hop : (shiftN l.length (f.getD i nd0)).op = (f.getD i nd0).op := rfl
    rw [hop]
    by_cases hy : usesY (f.getD i nd0).op = true
    · rw [if_pos hy, if_pos hy]
      have hx := usesY_X hy
      have h1 := opsOk_x ho hx
      have h2 := opsOk_y ho hy
      have e1 : (shiftN l.length (f.getD i nd0)).x.toNat = l.length + (f.getD i nd0).x.toNat := by
        show (if usesX (f.getD i nd0).op = true then (f.getD i nd0).x + (l.length : Int) else _).toNat = _
        rw [if_pos hx]; omega
      have e2 : (shiftN l.length (f.getD i nd0)).y.toNat = l.length + (f.getD i nd0).y.toNat := by
        show (if usesY (f.getD i nd0).op = true then (f.getD i nd0).y + (l.length : Int) else _).toNat = _
        rw [if_pos hy]; omega
      rw [e1, e2, ih _ (by omega) (by omega), ih _ (by omega) (by omega)]
    · rw [if_neg hy, if_neg hy]
      by_cases hx : usesX (f.getD i nd0).op = true
      · rw [if_pos hx, if_pos hx]
        have h1 := opsOk_x ho hx
        have e1 : (shiftN l.length (f.getD i nd0)).x.toNat = l.length + (f.getD i nd0).x.toNat := by
          show (if usesX (f.getD i nd0).op = true then (f.getD i nd0).x + (l.length : Int) else _).toNat = _
          rw [if_pos hx]; omega
        rw [e1, ih _ (by omega) (by omega)]
      · rw [if_neg hx, if_neg hx]
theorem treeAt_left {l r : List Nd} (h : opsL (l ++ r)) {i : Nat} (hi : i < l.length) : treeAt (l ++ r) i = treeAt l i := by
  have := treeAt_take h l.length (i + 1) i (by omega) hi (by rw [List.length_append]; omega)
  rw [List.take_left] at this
  exact this.symm
/-- the tree of a formula -/
def treeOf (f : List Nd) : Tr := treeAt f (f.length - 1)
def shortT (t : Tr) : List Nd := if 200 < (canT t).length then [] else canT t
theorem treeOf_snoc {l : List Nd} {n : Nd} (h : opsL (l ++ [n])) : treeOf (l ++ [n]) = (if usesY n.op = true then .bin (bare n) (treeAt l n.x.toNat) (treeAt l n.y.toNat) else if usesX n.op = true then .un (bare n) (treeAt l n.x.toNat) else .leaf (bare n)) := by
  unfold treeOf
  have hl : (l ++ [n]).length - 1 = l.length := by simp
  have hg : (l ++ [n]).getD l.length nd0 = n := getD_some (by simp)
  have ho := h l.length (by simp)
  rw [hg] at ho
  rw [hl, treeAt_eq h (by simp), hg]
  by_cases hy : usesY n.op = true
  · rw [if_pos hy, if_pos hy]
    have h1 := opsOk_x ho (usesY_X hy)
    have h2 := opsOk_y ho hy
    rw [treeAt_left h h1.2, treeAt_left h h2.2]
  · rw [if_neg hy, if_neg hy]
    by_cases hx : usesX n.op = true
    · rw [if_pos hx, if_pos hx]
      have h1 := opsOk_x ho hx
      rw [treeAt_left h h1.2]
    · rw [if_neg hx, if_neg hx]
theorem build_leaf {n : Nd} (hk : known n.op = true) (hc : cleanN n) (hr : rangeOk n = true) (hb : bare n = n) (hux : usesX n.op = false) : buildF n [] = canT (.leaf n) := by
  obtain ⟨hx, hy⟩ := bare_x hb
  rw [buildF_one hk hc hx hy hux]
  have huy : usesY n.op = false := by
    cases h : usesY n.op with
    | false => rfl
    | true => have := usesY_X h; rw [hux] at this; cases this
  have ho : opsOk n 0 := ⟨by rw [if_neg (by rw [hux]; decide)]; exact hx, by rw [if_neg (by rw [huy]; decide)]; exact hy⟩
  have hn : nodeErr n 0 = 0 ↔ rangeOk n = true := node_build (n' := n) hk hc ho rfl rfl rfl rfl
  unfold oneF
  rw [if_pos (hn.2 hr)]
  simp [canT, finT, putNd]
theorem build_un {n : Nd} {f : List Nd} (hk : known n.op = true) (hc : cleanN n) (hr : rangeOk n = true) (hb : bare n = n) (hux : usesX n.op = true) (huy : usesY n.op = false) (hf : fErr f = 0) : buildF n [f] = shortT (.un n (treeOf f)) := by
  obtain ⟨hx, hy⟩ := bare_x hb
  have hne : f.length ≠ 0 := by simpa using (fErr_ok hf).1
  have hok := (fin_1 n f hk hc hy hux huy hr (by intro g hg; simp at hg; rw [hg]; exact hf)).1
  have e : catKn [f] [f].length = f := by simp [catKn, catS, map_shift0]
  rw [e] at hok
  unfold buildF
  rw [if_neg (by rw [hr]; decide), if_neg (by simp [hf])]
  have e2 : catS [f] [] = f := by simp [catS, map_shift0]
  rw [e2]
  have hcan : canonF (f ++ [lastN n [f]]) = canT (.un n (treeOf f)) := by
    rw [canonF_tree hok.ops hok.ne]
    show canT (treeOf (f ++ [lastN n [f]])) = _
    rw [treeOf_snoc hok.ops]
    have ho : (lastN n [f]).op = n.op := rfl
    rw [ho, if_neg (by rw [huy]; decide), if_pos hux]
    have hbx : bare (lastN n [f]) = n := by rw [← hb]; rfl
    have hxx : (lastN n [f]).x.toNat = f.length - 1 := by show ((f.length : Int) - 1).toNat = _; omega
    rw [hbx, hxx]; rfl
  rw [hcan]; rfl
theorem build_bin {n : Nd} {f g : List Nd} (hk : known n.op = true) (hc : cleanN n) (hr : rangeOk n = true) (hb : bare n = n) (hux : usesX n.op = true) (huy : usesY n.op = true) (hf : fErr f = 0) (hg : fErr g = 0) : buildF n [f, g] = shortT (.bin n (treeOf f) (treeOf g)) := by
  have hne : f.length ≠ 0 := by simpa using (fErr_ok hf).1
  have hne2 : g.length ≠ 0 := by simpa using (fErr_ok hg).1
  have hok := (fin_2 n f g hk hc hux huy hr (by intro h hh; simp at hh; rcases hh with rfl | rfl <;> assumption)).1
  have e : catKn [f, g] [f, g].length = f ++ g.map (shiftN f.length) := by simp [catKn, catS, map_shift0]
  rw [e] at hok
  unfold buildF
  rw [if_neg (by rw [hr]; decide), if_neg (by simp [hf, hg])]
  have e2 : catS [f, g] [] = f ++ g.map (shiftN f.length) := by simp [catS, map_shift0]
  rw [e2]
  obtain ⟨hol, _⟩ := catL_ok hf hg
  have hcan : canonF (f ++ g.map (shiftN f.length) ++ [lastN n [f, g]]) = canT (.bin n (treeOf f) (treeOf g)) := by
    rw [canonF_tree hok.ops hok.ne]
    show canT (treeOf (f ++ g.map (shiftN f.length) ++ [lastN n [f, g]])) = _
    rw [treeOf_snoc hok.ops]
    have ho : (lastN n [f, g]).op = n.op := rfl
    rw [ho, if_pos huy]
    have hbx : bare (lastN n [f, g]) = n := by rw [← hb]; rfl
    have hxx : (lastN n [f, g]).x.toNat = f.length - 1 := by show ((f.length : Int) - 1).toNat = _; omega
    have hyy : (lastN n [f, g]).y.toNat = f.length + (g.length - 1) := by show ((f.length + g.length : Int) - 1).toNat = _; omega
    rw [hbx, hxx, hyy, treeAt_left hol (by omega), treeAt_app hol (fErr_ops hg) _ _ (Nat.lt_succ_self _) (by omega)]
    rfl
  rw [hcan]; rfl
/-- a node of a formula, without its operands, is that of the law -/
theorem clean_bare {n : Nd} (h : fldOk n) : cleanP n.op n.i n.e n.g = bare n := by
  obtain ⟨_, ⟨h1, h2, h3⟩, _⟩ := h
  unfold cleanP bare
  have e1 : (if (decide (n.op = 3) || hasAgent n.op || decide (n.op = 17)) = true then n.i else 0) = n.i := by
    split
    · rfl
    · rename_i hh
      simp only [Bool.or_eq_true, decide_eq_true_eq, not_or] at hh
      rcases h1 with a | a | a | a
      · exact absurd a hh.1.1
      · exact absurd a hh.1.2
      · exact absurd a hh.2
      · exact a.symm
  have e2 : (if n.op = 17 then n.e else 0) = n.e := by
    split
    · rfl
    · rename_i hh
      rcases h2 with a | a
      · exact absurd a hh
      · exact a.symm
  have e3 : (if hasGroup n.op = true then n.g else 0) = n.g := by
    split
    · rfl
    · rename_i hh
      rcases h3 with a | a
      · exact absurd a hh
      · exact a.symm
  rw [e1, e2, e3]
theorem subT_un {n : Nd} {a : Tr} : subT a (.un n a) := Or.inr (subT_refl a)
theorem subT_bin1 {n : Nd} {a b : Tr} : subT a (.bin n a b) := Or.inr (Or.inl (subT_refl a))
theorem subT_bin2 {n : Nd} {a b : Tr} : subT b (.bin n a b) := Or.inr (Or.inr (subT_refl b))
/-- a subformula in canonical form is what the constructor of its last operator makes of its operands -/
theorem rebuild {s : List Nd} {r : Tr} (hr : trOk r) (hs : s = canT r) (hz : fErr s = 0) :
    partsF (s.getD (s.length - 1) nd0).op (s.getD (s.length - 1) nd0).i (s.getD (s.length - 1) nd0).e (s.getD (s.length - 1) nd0).g
      (if usesX (s.getD (s.length - 1) nd0).op = true then subF s (s.getD (s.length - 1) nd0).x else []) (if usesY (s.getD (s.length - 1) nd0).op = true then subF s (s.getD (s.length - 1) nd0).y else []) = s := by
  have hne : s.length ≠ 0 := by simpa using (fErr_ok hz).1
  have h200 := (fErr_ok hz).2.1
  have hi : s.length - 1 < s.length := by omega
  have hops := fErr_ops hz
  have ho := hops _ hi
  have hfld := fErr_fld hz _ (getD_mem hi)
  have htr : treeAt s (s.length - 1) = r := by rw [hs]; exact canT_tree hr
  have hte := treeAt_eq hops hi
  rw [htr] at hte
  generalize s.getD (s.length - 1) nd0 = n at *
  have hcl := clean_bare hfld
  have hkn := hfld.1
  have hcn : cleanN (bare n) := hfld.2.1
  have hrg : rangeOk (bare n) = true := hfld.2.2
  have hbb : bare (bare n) = bare n := rfl
  -- a subformula at an operand
  have hsub : ∀ z : Int, 0 ≤ z → z.toNat < s.length → subT (treeAt s z.toNat) r → fErr (subF s z) = 0 ∧ treeOf (subF s z) = treeAt s z.toNat := by
    intro z h0 h1 h2
    have e1 : subF s z = canT (treeAt s z.toNat) := by
      have := subF_tree hz h1
      rw [show ((z.toNat : Nat) : Int) = z from by omega] at this
      exact this
    have hl : (canT (treeAt s z.toNat)).length ≤ 200 := by
      rcases canT_len hr h2 with e | e
      · rw [e, ← hs]; exact h200
      · rw [← hs] at e; omega
    rw [e1]
    exact ⟨canT_ok hops (fErr_fld hz) h1 hl, canT_tree (subT_ok h2 hr)⟩
  have hshort : shortT r = s := by unfold shortT; rw [← hs, if_neg (by omega)]
  unfold partsF
  rw [hcl]
  by_cases hy : usesY n.op = true
  · have hx := usesY_X hy
    rw [if_pos hy] at hte
    have h1 := opsOk_x ho hx
    have h2 := opsOk_y ho hy
    obtain ⟨a1, a2⟩ := hsub n.x h1.1 (by omega) (by rw [hte]; exact subT_bin1)
    obtain ⟨b1, b2⟩ := hsub n.y h2.1 (by omega) (by rw [hte]; exact subT_bin2)
    rw [if_pos hy, if_pos hx, if_pos hy, build_bin (n := bare n) hkn hcn hrg hbb hx hy a1 b1, a2, b2, ← hte, hshort]
  · have hy2 : usesY n.op = false := by simpa using hy
    rw [if_neg hy] at hte
    by_cases hx : usesX n.op = true
    · rw [if_pos hx] at hte
      have h1 := opsOk_x ho hx
      obtain ⟨a1, a2⟩ := hsub n.x h1.1 (by omega) (by rw [hte]; exact subT_un)
      rw [if_neg hy, if_pos hx, if_pos hx, build_un (n := bare n) hkn hcn hrg hbb hx hy2 a1, a2, ← hte, hshort]
    · have hx2 : usesX n.op = false := by simpa using hx
      rw [if_neg hx] at hte
      rw [if_neg hy, if_neg hx, build_leaf (n := bare n) hkn hcn hrg hbb hx2, ← hte, ← hs]
end Go.Proofs.YtkcedppepepgfaaDoor
