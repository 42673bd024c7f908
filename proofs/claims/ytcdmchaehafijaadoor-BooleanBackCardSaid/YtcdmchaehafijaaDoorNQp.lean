/- Layer 6: texts joined: Qb Qc Qd Qe. -/
import Derived.Test.YtcdmchaehafijaaDoorNEa
/- Layer 8 as plain mathematics: the formula that is taken out of a list at a place. -/
namespace Go.Proofs.Ws
open Go
/-- the marks of the operands of a node -/
def mkX (o : List Nd) (i : Nat) (u : List Bool) : List Bool := if u.getD i false = true ∧ usesX (o.getD i nd0).op = true then u.set (o.getD i nd0).x.toNat true else u
def mkY (o : List Nd) (i : Nat) (u : List Bool) : List Bool := if u.getD i false = true ∧ usesY (o.getD i nd0).op = true then u.set (o.getD i nd0).y.toNat true else u
def markL (o : List Nd) : Nat → List Bool → List Bool
  | 0, u => u
  | i + 1, u => markL o i (mkY o i (mkX o i u))
theorem setB {u : List Bool} {i j : Nat} (h : u.getD j false = true) : (u.set i true).getD j false = true := by
  rw [List.getD_eq_getElem?_getD, List.getElem?_set]
  by_cases e : i = j
  · subst e
    rw [if_pos rfl]
    by_cases hl : i < u.length
    · rw [if_pos hl]; rfl
    · rw [List.getD_eq_getElem?_getD, List.getElem?_eq_none (by omega)] at h; cases h
  · rw [if_neg e, ← List.getD_eq_getElem?_getD]; exact h
theorem setB_same {u : List Bool} {i : Nat} (h : i < u.length) : (u.set i true).getD i false = true := by
  rw [List.getD_eq_getElem?_getD, List.getElem?_set, if_pos rfl, if_pos h]; rfl
theorem setB_ne {u : List Bool} {i j : Nat} (h : i ≠ j) : (u.set i true).getD j false = u.getD j false := by
  rw [List.getD_eq_getElem?_getD, List.getElem?_set, if_neg h, ← List.getD_eq_getElem?_getD]
theorem mkX_len (o : List Nd) (i : Nat) (u : List Bool) : (mkX o i u).length = u.length := by unfold mkX; split <;> simp
theorem mkY_len (o : List Nd) (i : Nat) (u : List Bool) : (mkY o i u).length = u.length := by unfold mkY; split <;> simp
theorem markL_len (o : List Nd) : ∀ (i : Nat) (u : List Bool), (markL o i u).length = u.length
  | 0, _ => rfl
  | i + 1, u => by show (markL o i _).length = _; rw [markL_len o i, mkY_len, mkX_len]
theorem mkX_keep {o : List Nd} {i j : Nat} {u : List Bool} (h : u.getD j false = true) : (mkX o i u).getD j false = true := by unfold mkX; split; exact setB h; exact h
theorem mkY_keep {o : List Nd} {i j : Nat} {u : List Bool} (h : u.getD j false = true) : (mkY o i u).getD j false = true := by unfold mkY; split; exact setB h; exact h
/-- the marks: closed from a place on, and only of parts of a tree -/
structure Mk (o : List Nd) (t : Tr) (i : Nat) (u : List Bool) : Prop where
  sub : ∀ j, u.getD j false = true → j < o.length ∧ subT (treeAt o j) t
  cx : ∀ j, i ≤ j → u.getD j false = true → usesX (o.getD j nd0).op = true → u.getD (o.getD j nd0).x.toNat false = true
  cy : ∀ j, i ≤ j → u.getD j false = true → usesY (o.getD j nd0).op = true → u.getD (o.getD j nd0).y.toNat false = true
theorem tree_x {o : List Nd} (ho : opsL o) {j : Nat} (hj : j < o.length) (hx : usesX (o.getD j nd0).op = true) : subT (treeAt o (o.getD j nd0).x.toNat) (treeAt o j) := by
  rw [treeAt_eq ho hj]
  split
  · exact .inr (.inl (subT_refl _))
  · exact .inr (subT_refl _)
theorem tree_y {o : List Nd} (ho : opsL o) {j : Nat} (hj : j < o.length) (hy : usesY (o.getD j nd0).op = true) : subT (treeAt o (o.getD j nd0).y.toNat) (treeAt o j) := by
  rw [treeAt_eq ho hj, if_pos hy]
  exact .inr (.inr (subT_refl _))
theorem Mk.step {o : List Nd} (ho : opsL o) {t : Tr} {i : Nat} {u : List Bool} (h : Mk o t (i + 1) u) (hi : i < u.length) : Mk o t i (mkY o i (mkX o i u)) := by
  by_cases hu : u.getD i false = true
  · obtain ⟨hio, hsub⟩ := h.sub i hu
    have hop := ho i hio
    have sx : usesX (o.getD i nd0).op = true → (o.getD i nd0).x.toNat < i ∧ subT (treeAt o (o.getD i nd0).x.toNat) t := fun hx => ⟨(opsOk_x hop hx).2, subT_trans (tree_x ho hio hx) hsub⟩
    have sy : usesY (o.getD i nd0).op = true → (o.getD i nd0).y.toNat < i ∧ subT (treeAt o (o.getD i nd0).y.toNat) t := fun hy => ⟨(opsOk_y hop hy).2, subT_trans (tree_y ho hio hy) hsub⟩
    have key : ∀ j, (mkY o i (mkX o i u)).getD j false = true → u.getD j false = true ∨ (j < i ∧ subT (treeAt o j) t) := by
      intro j hj
      unfold mkY at hj
      split at hj
      · rename_i hc
        by_cases e : (o.getD i nd0).y.toNat = j
        · rw [← e]; exact .inr (sy hc.2)
        · rw [setB_ne e] at hj
          unfold mkX at hj
          split at hj
          · rename_i hc2
            by_cases e : (o.getD i nd0).x.toNat = j
            · rw [← e]; exact .inr (sx hc2.2)
            · rw [setB_ne e] at hj; exact .inl hj
          · exact .inl hj
      · unfold mkX at hj
        split at hj
        · rename_i hc2
          by_cases e : (o.getD i nd0).x.toNat = j
          · rw [← e]; exact .inr (sx hc2.2)
          · rw [setB_ne e] at hj; exact .inl hj
        · exact .inl hj
    refine ⟨fun j hj => ?_, fun j hj hm hx => ?_, fun j hj hm hy => ?_⟩
    · rcases key j hj with h1 | ⟨h1, h2⟩
      · exact h.sub j h1
      · exact ⟨by omega, h2⟩
    · by_cases e : j = i
      · subst e
        refine mkY_keep ?_
        unfold mkX
        rw [if_pos ⟨hu, hx⟩]
        exact setB_same (by have := (sx hx).1; omega)
      · rcases key j hm with h1 | ⟨h1, _⟩
        · exact mkY_keep (mkX_keep (h.cx j (by omega) h1 hx))
        · omega
    · by_cases e : j = i
      · subst e
        unfold mkY
        rw [if_pos ⟨mkX_keep hu, hy⟩]
        exact setB_same (by rw [mkX_len]; have := (sy hy).1; omega)
      · rcases key j hm with h1 | ⟨h1, _⟩
        · exact mkY_keep (mkX_keep (h.cy j (by omega) h1 hy))
        · omega
  · have e1 : mkX o i u = u := by unfold mkX; rw [if_neg (fun k => hu k.1)]
    have e2 : mkY o i u = u := by unfold mkY; rw [if_neg (fun k => hu k.1)]
    rw [e1, e2]
    refine ⟨h.sub, fun j hj hm hx => ?_, fun j hj hm hy => ?_⟩
    · by_cases e : j = i
      · subst e; exact absurd hm hu
      · exact h.cx j (by omega) hm hx
    · by_cases e : j = i
      · subst e; exact absurd hm hu
      · exact h.cy j (by omega) hm hy
theorem Mk.all {o : List Nd} (ho : opsL o) {t : Tr} : ∀ (i : Nat) {u : List Bool}, Mk o t i u → i ≤ u.length → Mk o t 0 (markL o i u)
  | 0, _, h, _ => h
  | i + 1, u, h, hi => Mk.all ho i (Mk.step ho h (by omega)) (by rw [mkY_len, mkX_len]; omega)
theorem markL_keep {o : List Nd} : ∀ (i : Nat) {u : List Bool} {j : Nat}, u.getD j false = true → (markL o i u).getD j false = true
  | 0, _, _, h => h
  | i + 1, _, _, h => markL_keep i (mkY_keep (mkX_keep h))
/-- the marks at the end -/
def marksOf (o : List Nd) (last : Nat) : List Bool := markL o (last + 1) ((List.replicate (last + 1) false).set last true)
theorem rep_f (n j : Nat) : (List.replicate n false).getD j false = false := by
  rw [List.getD_eq_getElem?_getD, List.getElem?_replicate]; split <;> rfl
theorem Mk.start {o : List Nd} {last : Nat} (hl : last < o.length) : Mk o (treeAt o last) (last + 1) ((List.replicate (last + 1) false).set last true) := by
  have key : ∀ j, ((List.replicate (last + 1) false).set last true).getD j false = true → j = last := by
    intro j hj
    by_cases e : last = j
    · exact e.symm
    · rw [setB_ne e, rep_f] at hj; cases hj
  exact ⟨fun j hj => by rw [key j hj]; exact ⟨hl, subT_refl _⟩, fun j hj hm => by have := key j hm; omega, fun j hj hm => by have := key j hm; omega⟩
theorem marks_ok {o : List Nd} (ho : opsL o) {last : Nat} (hl : last < o.length) : Mk o (treeAt o last) 0 (marksOf o last) := Mk.all ho (last + 1) (Mk.start hl) (by simp)
theorem marks_last {o : List Nd} {last : Nat} : (marksOf o last).getD last false = true := markL_keep _ (setB_same (by simp))
/-- a node with the numbers of its operands -/
def wOps (n : Nd) (nu : List Nat) : Nd := { n with x := if usesX n.op = true then (nu.getD n.x.toNat 0 : Int) else n.x, y := if usesY n.op = true then (nu.getD n.y.toNat 0 : Int) else n.y }
def tkL (o : List Nd) (u : List Bool) (m : Nat) : Nat → List Nd × List Nat
  | 0 => ([], List.replicate m 0)
  | i + 1 => if u.getD i false = true then ((tkL o u m i).1 ++ [wOps (o.getD i nd0) ((tkL o u m i).2.set i (tkL o u m i).1.length)], (tkL o u m i).2.set i (tkL o u m i).1.length) else tkL o u m i
theorem tkL_len (o : List Nd) (u : List Bool) (m : Nat) : ∀ i, (tkL o u m i).2.length = m
  | 0 => by simp [tkL]
  | i + 1 => by unfold tkL; split; rw [List.length_set]; exact tkL_len o u m i; exact tkL_len o u m i
theorem setN {u : List Nat} {i j v : Nat} (h : i < u.length) : (u.set i v).getD j 0 = if i = j then v else u.getD j 0 := by
  rw [List.getD_eq_getElem?_getD, List.getElem?_set]
  by_cases e : i = j
  · rw [if_pos e, if_pos e, if_pos h]; rfl
  · rw [if_neg e, if_neg e, ← List.getD_eq_getElem?_getD]
/-- what has been taken up to a place -/
structure Tk (o : List Nd) (u : List Bool) (i : Nat) (f : List Nd) (nu : List Nat) : Prop where
  bd : Bd f
  at_ : ∀ j, j < i → u.getD j false = true → rep f (nu.getD j 0) (treeAt o j)
  back : ∀ k, k < f.length → ∃ j, j < i ∧ u.getD j false = true ∧ nu.getD j 0 = k
theorem Tk.step {o : List Nd} (h : Bd o) {t : Tr} {u : List Bool} (hm : Mk o t 0 u) {i m : Nat} (hi : i < m) {f : List Nd} {nu : List Nat} (hk : Tk o u i f nu) (hn : nu.length = m) (hu : u.getD i false = true) :
    Tk o u (i + 1) (f ++ [wOps (o.getD i nd0) (nu.set i f.length)]) (nu.set i f.length) := by
  obtain ⟨hio, _⟩ := hm.sub i hu
  have hop := h.ops i hio
  have hset : ∀ j, (nu.set i f.length).getD j 0 = if i = j then f.length else nu.getD j 0 := fun j => setN (by omega)
  have ex : usesX (o.getD i nd0).op = true → rep f ((nu.set i f.length).getD (o.getD i nd0).x.toNat 0) (treeAt o (o.getD i nd0).x.toNat) := by
    intro hx
    have h1 := (opsOk_x hop hx).2
    rw [hset, if_neg (by omega)]
    exact hk.at_ _ h1 (hm.cx i (Nat.zero_le _) hu hx)
  have ey : usesY (o.getD i nd0).op = true → rep f ((nu.set i f.length).getD (o.getD i nd0).y.toNat 0) (treeAt o (o.getD i nd0).y.toNat) := by
    intro hy
    have h1 := (opsOk_y hop hy).2
    rw [hset, if_neg (by omega)]
    exact hk.at_ _ h1 (hm.cy i (Nat.zero_le _) hu hy)
  generalize hN : wOps (o.getD i nd0) (nu.set i f.length) = N
  have hpre : f <+: f ++ [N] := List.prefix_append _ _
  have hlast : (f ++ [N])[f.length]? = some N := by simp
  have hrep : rep (f ++ [N]) f.length (treeAt o i) := by
    rw [treeAt_eq h.ops hio]
    split
    · rename_i hy
      have hx := usesY_X hy
      refine ⟨_, _, ?_, rep_mono hpre _ _ (ex hx), rep_mono hpre _ _ (ey hy)⟩
      rw [hlast, ← hN]
      unfold wOps bare
      simp only [if_pos hx, if_pos hy]
    · rename_i hy
      split
      · rename_i hx
        refine ⟨_, ?_, rep_mono hpre _ _ (ex hx)⟩
        have hy0 : (o.getD i nd0).y = 0 := by have := hop.2; rw [if_neg hy] at this; exact this
        rw [hlast, ← hN]
        unfold wOps bare
        simp only [if_pos hx, if_neg hy, hy0]
      · rename_i hx
        show (f ++ [N])[f.length]? = _
        have hy0 : (o.getD i nd0).y = 0 := by have := hop.2; rw [if_neg hy] at this; exact this
        have hx0 : (o.getD i nd0).x = 0 := by have := hop.1; rw [if_neg hx] at this; exact this
        rw [hlast, ← hN]
        unfold wOps bare
        simp only [if_neg hx, if_neg hy, hy0, hx0]
  have hops : opsL (f ++ [N]) := by
    have hN2 : opsOk N f.length := by
      rw [← hN]
      constructor
      · show if usesX (o.getD i nd0).op = true then _ else _
        split
        · rename_i hx
          have := rep_lt (ex hx)
          refine ⟨?_, ?_⟩
          · show (0 : Int) ≤ if usesX (o.getD i nd0).op = true then _ else _
            rw [if_pos hx]; exact Int.natCast_nonneg _
          · show (if usesX (o.getD i nd0).op = true then _ else _ : Int) < _
            rw [if_pos hx]; omega
        · rename_i hx
          show (if usesX (o.getD i nd0).op = true then _ else _ : Int) = 0
          rw [if_neg hx]
          have := hop.1; rw [if_neg hx] at this; exact this
      · show if usesY (o.getD i nd0).op = true then _ else _
        split
        · rename_i hy
          have := rep_lt (ey hy)
          refine ⟨?_, ?_⟩
          · show (0 : Int) ≤ if usesY (o.getD i nd0).op = true then _ else _
            rw [if_pos hy]; exact Int.natCast_nonneg _
          · show (if usesY (o.getD i nd0).op = true then _ else _ : Int) < _
            rw [if_pos hy]; omega
        · rename_i hy
          show (if usesY (o.getD i nd0).op = true then _ else _ : Int) = 0
          rw [if_neg hy]
          have := hop.2; rw [if_neg hy] at this; exact this
    intro j hj
    rw [List.length_append, List.length_singleton] at hj
    by_cases e : j = f.length
    · subst e; rw [getD_some hlast]; exact hN2
    · have e1 : (f ++ [N]).getD j nd0 = f.getD j nd0 := by
        rw [List.getD_eq_getElem?_getD, List.getElem?_append_left (by omega), ← List.getD_eq_getElem?_getD]
      rw [e1]; exact hk.bd.ops j (by omega)
  have hnew : N ∉ f := by
    intro hin
    obtain ⟨k, hk1, hk2⟩ := List.getElem_of_mem hin
    obtain ⟨j, hj1, hj2, hj3⟩ := hk.back k hk1
    obtain ⟨hjo, _⟩ := hm.sub j hj2
    have r1 := rep_mono hpre _ _ (hk.at_ j hj1 hj2)
    rw [hj3] at r1
    have t1 := rep_tree hops _ k (treeAt_ok h.ops (j + 1) j (by omega) hjo) r1
    have t2 := rep_tree hops _ f.length (treeAt_ok h.ops (i + 1) i (by omega) hio) hrep
    have g1 : (f ++ [N]).getD k nd0 = N := by
      rw [List.getD_eq_getElem?_getD, List.getElem?_append_left hk1, List.getElem?_eq_getElem hk1, hk2]; rfl
    have g2 : (f ++ [N]).getD f.length nd0 = N := getD_some hlast
    rw [treeAt_eq hops (by rw [List.length_append]; omega), g1] at t1
    rw [treeAt_eq hops (by simp), g2] at t2
    have e : treeAt o j = treeAt o i := t1.symm.trans t2
    have q1 := rep_of_tree h.ops (j + 1) j (by omega) hjo
    have q2 := rep_of_tree h.ops (i + 1) i (by omega) hio
    rw [e] at q1
    have := h.inj q1 q2
    omega
  refine ⟨⟨?_, hops⟩, fun j hj hm2 => ?_, fun k hk2 => ?_⟩
  · rw [List.nodup_append]
    exact ⟨hk.bd.nodup, by simp, fun a ha b hb e => hnew (by rw [List.mem_singleton.1 hb] at e; rw [← e]; exact ha)⟩
  · rw [hset]
    by_cases e : i = j
    · rw [if_pos e, ← e]; exact hrep
    · rw [if_neg e]; exact rep_mono hpre _ _ (hk.at_ j (by omega) hm2)
  · rw [List.length_append, List.length_singleton] at hk2
    by_cases e : k = f.length
    · exact ⟨i, by omega, hu, by rw [hset, if_pos rfl, e]⟩
    · obtain ⟨j, hj1, hj2, hj3⟩ := hk.back k (by omega)
      exact ⟨j, by omega, hj2, by rw [hset, if_neg (by omega)]; exact hj3⟩
theorem Tk.all {o : List Nd} (h : Bd o) {t : Tr} {u : List Bool} (hm : Mk o t 0 u) (m : Nat) : ∀ i, i ≤ m → Tk o u i (tkL o u m i).1 (tkL o u m i).2
  | 0, _ => ⟨Bd.nil, fun j hj => absurd hj (by omega), fun k hk => absurd hk (by simp [tkL])⟩
  | i + 1, hi => by
    have ih := Tk.all h hm m i (by omega)
    by_cases hu : u.getD i false = true
    · unfold tkL; rw [if_pos hu]; exact Tk.step h hm (by omega) ih (tkL_len o u m i) hu
    · unfold tkL; rw [if_neg hu]
      refine ⟨ih.bd, fun j hj hm2 => ?_, fun k hk => ?_⟩
      · by_cases e : j = i
        · subst e; exact absurd hm2 hu
        · exact ih.at_ j (by omega) hm2
      · obtain ⟨j, h1, h2, h3⟩ := ih.back k hk
        exact ⟨j, by omega, h2, h3⟩
/-- the list that is taken at a place -/
def takeL (o : List Nd) (last : Nat) : List Nd := (tkL o (marksOf o last) (last + 1) (last + 1)).1
theorem takeL_bd {o : List Nd} (h : Bd o) {last : Nat} (hl : last < o.length) : Bd (takeL o last) := (Tk.all h (marks_ok h.ops hl) (last + 1) (last + 1) (Nat.le_refl _)).bd
theorem takeL_last {o : List Nd} (h : Bd o) {last : Nat} (hl : last < o.length) : takeL o last ≠ [] ∧ treeAt (takeL o last) ((takeL o last).length - 1) = treeAt o last := by
  have hk := Tk.all h (marks_ok h.ops hl) (last + 1) last (by omega)
  have hlen := tkL_len o (marksOf o last) (last + 1) last
  have hall := Tk.all h (marks_ok h.ops hl) (last + 1) (last + 1) (Nat.le_refl _)
  have hr := hall.at_ last (by omega) marks_last
  have e1 : takeL o last = (tkL o (marksOf o last) (last + 1) last).1 ++ [wOps (o.getD last nd0) ((tkL o (marksOf o last) (last + 1) last).2.set last (tkL o (marksOf o last) (last + 1) last).1.length)] := by
    unfold takeL
    rw [tkL, if_pos marks_last]
  have e2 : (tkL o (marksOf o last) (last + 1) (last + 1)).2.getD last 0 = (takeL o last).length - 1 := by
    rw [tkL, if_pos marks_last]
    show ((tkL o (marksOf o last) (last + 1) last).2.set last _).getD last 0 = _
    rw [setN (by omega), if_pos rfl, e1, List.length_append]; rfl
  rw [e2] at hr
  exact ⟨by rw [e1]; simp, rep_tree hall.bd.ops _ _ (treeAt_ok h.ops (last + 1) last (by omega) hl) hr⟩
/-- as many nodes as the canonical list -/
theorem takeL_len {o : List Nd} (h : Bd o) {last : Nat} (hl : last < o.length) : (takeL o last).length = (canT (treeAt o last)).length := by
  have hb := takeL_bd h hl
  obtain ⟨hne, ht⟩ := takeL_last h hl
  have hok := treeAt_ok h.ops (last + 1) last (by omega) hl
  have hpos := List.length_pos_iff.2 hne
  have r := rep_of_tree hb.ops ((takeL o last).length) ((takeL o last).length - 1) (by omega) (by omega)
  rw [ht] at r
  have h1 := hb.len hok r
  have hall := Tk.all h (marks_ok h.ops hl) (last + 1) (last + 1) (Nat.le_refl _)
  have key := len_sub ((List.range (takeL o last).length).map (treeAt (takeL o last))) (treesL (treeAt o last)) (by
      rw [List.nodup_iff_pairwise_ne, List.pairwise_map]
      refine List.Pairwise.imp_of_mem ?_ (List.nodup_iff_pairwise_ne.1 List.nodup_range)
      intro i j hi hj hne he
      have hi := List.mem_range.1 hi
      have hj := List.mem_range.1 hj
      have r1 := rep_of_tree hb.ops (i + 1) i (by omega) hi
      have r2 := rep_of_tree hb.ops (j + 1) j (by omega) hj
      rw [← he] at r2
      exact hne (hb.inj r1 r2)) (by
      intro a ha
      obtain ⟨k, hk, rfl⟩ := List.mem_map.1 ha
      have hk := List.mem_range.1 hk
      obtain ⟨j, hj1, hj2, hj3⟩ := hall.back k hk
      obtain ⟨hjo, hsub⟩ := (marks_ok h.ops hl).sub j hj2
      have r1 := hall.at_ j hj1 hj2
      rw [hj3] at r1
      have e : treeAt (takeL o last) k = treeAt o j := rep_tree hb.ops _ k (treeAt_ok h.ops (j + 1) j (by omega) hjo) r1
      rw [e]
      exact (treesL_mem hok _).2 hsub)
  have e : (treesL (treeAt o last)).length = (canT (treeAt o last)).length := by unfold treesL; rw [List.length_map, List.length_range]
  rw [e, List.length_map, List.length_range] at key
  omega
/-- the canonical list of what is taken -/
theorem takeL_canon {o : List Nd} (h : Bd o) {last : Nat} (hl : last < o.length) : canonF (takeL o last) = canT (treeAt o last) := by
  obtain ⟨hne, ht⟩ := takeL_last h hl
  rw [canonF_tree (takeL_bd h hl).ops hne, ht]
end Go.Proofs.Ws
/- Layer 8 as plain mathematics: rewriting node by node; simplification; few operators. -/
namespace Go.Proofs.Ws
open Go
/-- a node over two trees: those that it uses -/
def mkT (n : Nd) (a b : Tr) : Tr := if usesY n.op = true then .bin n a b else if usesX n.op = true then .un n a else .leaf n
def noT : Tr := .leaf nd0
def mapT (R : Nd → Tr → Tr → Tr) : Tr → Tr
  | .leaf n => R n noT noT
  | .un n a => R n (mapT R a) noT
  | .bin n a b => R n (mapT R a) (mapT R b)
/-- a node whose operands are the places of two trees -/
structure Nx (o : List Nd) (n : Nd) (a b : Tr) : Prop where
  bd : Bd o
  x : usesX n.op = true → ∃ k : Nat, n.x = (k : Int) ∧ rep o k a ∧ trOk a
  y : usesY n.op = true → ∃ k : Nat, n.y = (k : Int) ∧ rep o k b ∧ trOk b
  nx : usesX n.op = false → n.x = 0
  ny : usesY n.op = false → n.y = 0
theorem Nx.add {o : List Nd} {n : Nd} {a b : Tr} (h : Nx o n a b) : Gr 1 o (putNd o n) (mkT (bare n) a b) := by
  unfold mkT
  split
  · rename_i hy
    obtain ⟨k, hk, hr, ht⟩ := h.x (usesY_X hy)
    obtain ⟨l, hl, hs, hu⟩ := h.y hy
    have e : n = { bare n with x := (k : Int), y := (l : Int) } := bare_with n _ _ hk hl
    have := Gr.bin h.bd (n := bare n) (a := a) (b := b) ⟨usesY_X hy, hy, rfl, ht, hu⟩ hr hs
    rw [← e] at this
    exact this
  · rename_i hy
    have hy0 := h.ny (Bool.eq_false_iff.2 hy)
    split
    · rename_i hx
      obtain ⟨k, hk, hr, ht⟩ := h.x hx
      have e : n = { bare n with x := (k : Int) } := by
        have := bare_with n _ _ hk hy0
        exact this
      have := Gr.un h.bd (n := bare n) (a := a) ⟨hx, Bool.eq_false_iff.2 hy, rfl, ht⟩ hr
      rw [← e] at this
      exact this
    · rename_i hx
      have hx0 := h.nx (Bool.eq_false_iff.2 hx)
      have e : n = bare n := bare_with n _ _ hx0 hy0
      have := Gr.leaf h.bd (n := bare n) ⟨Bool.eq_false_iff.2 hx, Bool.eq_false_iff.2 hy, rfl⟩
      rwa [show putNd o (bare n) = putNd o n from by rw [← e]] at this
/-- a rule of the program: it adds at most m nodes and gives the tree that it should -/
def RuleOk (m : Nat) (Q : Nd → Prop) (P : List Nd → Nd → Nat × List Nd) (R : Nd → Tr → Tr → Tr) : Prop :=
  ∀ o n a b, Q (bare n) → Nx o n a b → Gr m o (P o n) (R (bare n) a b)
/-- the loop over the nodes: the results so far, and the list -/
def rwL (P : List Nd → Nd → Nat × List Nd) (q : List Nd) (o : List Nd) : Nat → List Nat × List Nd
  | 0 => ([], o)
  | i + 1 => ((rwL P q o i).1 ++ [(P (rwL P q o i).2 (wOps (q.getD i nd0) (rwL P q o i).1)).1], (P (rwL P q o i).2 (wOps (q.getD i nd0) (rwL P q o i).1)).2)
structure Rw (R : Nd → Tr → Tr → Tr) (m : Nat) (q o : List Nd) (i : Nat) (s : List Nat × List Nd) : Prop where
  bd : Bd s.2
  pre : o <+: s.2
  len : s.1.length = i
  at_ : ∀ j, j < i → rep s.2 (s.1.getD j 0) (mapT R (treeAt q j)) ∧ trOk (mapT R (treeAt q j))
  few : s.2.length ≤ o.length + m * i
theorem snocN {l : List Nat} {v j : Nat} : (l ++ [v]).getD j 0 = if j = l.length then v else l.getD j 0 := by
  rw [List.getD_eq_getElem?_getD, List.getD_eq_getElem?_getD]
  by_cases e : j = l.length
  · rw [if_pos e, e]; simp
  · rw [if_neg e]
    by_cases h : j < l.length
    · rw [List.getElem?_append_left h]
    · rw [List.getElem?_eq_none (by simp; omega), List.getElem?_eq_none (by omega)]
theorem Rw.nx {R : Nd → Tr → Tr → Tr} {m i : Nat} {q o : List Nd} {s : List Nat × List Nd} (h : Rw R m q o i s) (hq : opsL q) (hi : i < q.length) :
    ∃ a b, Nx s.2 (wOps (q.getD i nd0) s.1) a b ∧ mapT R (treeAt q i) = R (bare (q.getD i nd0)) a b := by
  have hop := hq i hi
  rw [treeAt_eq hq hi]
  by_cases hy : usesY (q.getD i nd0).op = true
  · have hx := usesY_X hy
    refine ⟨mapT R (treeAt q (q.getD i nd0).x.toNat), mapT R (treeAt q (q.getD i nd0).y.toNat), ⟨h.bd, fun _ => ?_, fun _ => ?_, fun k => ?_, fun k => ?_⟩, ?_⟩
    · exact ⟨_, if_pos hx, (h.at_ _ (opsOk_x hop hx).2).1, (h.at_ _ (opsOk_x hop hx).2).2⟩
    · exact ⟨_, if_pos hy, (h.at_ _ (opsOk_y hop hy).2).1, (h.at_ _ (opsOk_y hop hy).2).2⟩
    · exact absurd hx (by rw [show usesX (q.getD i nd0).op = false from k]; decide)
    · exact absurd hy (by rw [show usesY (q.getD i nd0).op = false from k]; decide)
    · rw [if_pos hy]; rfl
  · have hy0 : (q.getD i nd0).y = 0 := by have := hop.2; rw [if_neg hy] at this; exact this
    rw [if_neg hy]
    by_cases hx : usesX (q.getD i nd0).op = true
    · refine ⟨mapT R (treeAt q (q.getD i nd0).x.toNat), noT, ⟨h.bd, fun _ => ?_, fun k => ?_, fun k => ?_, fun _ => ?_⟩, ?_⟩
      · exact ⟨_, if_pos hx, (h.at_ _ (opsOk_x hop hx).2).1, (h.at_ _ (opsOk_x hop hx).2).2⟩
      · exact absurd k hy
      · exact absurd hx (by rw [show usesX (q.getD i nd0).op = false from k]; decide)
      · exact (if_neg hy).trans hy0
      · rw [if_pos hx]; rfl
    · have hx0 : (q.getD i nd0).x = 0 := by have := hop.1; rw [if_neg hx] at this; exact this
      refine ⟨noT, noT, ⟨h.bd, fun k => ?_, fun k => ?_, fun _ => ?_, fun _ => ?_⟩, ?_⟩
      · exact absurd k hx
      · exact absurd k hy
      · exact (if_neg hx).trans hx0
      · exact (if_neg hy).trans hy0
      · rw [if_neg hx]; rfl
theorem rw_ok {R : Nd → Tr → Tr → Tr} {m : Nat} {Q : Nd → Prop} {P : List Nd → Nd → Nat × List Nd} (hP : RuleOk m Q P R) {q o : List Nd} (hq : opsL q) (ho : Bd o) (hQ : ∀ n ∈ q, Q (bare n)) : ∀ i, i ≤ q.length → Rw R m q o i (rwL P q o i)
  | 0, _ => ⟨ho, List.prefix_refl _, rfl, fun j hj => absurd hj (by omega), by show o.length ≤ _; omega⟩
  | i + 1, hi => by
    have ih := rw_ok hP hq ho hQ i (by omega)
    obtain ⟨a, b, hN, he⟩ := ih.nx hq (by omega : i < q.length)
    have hm : q.getD i nd0 ∈ q := by
      rw [List.getD_eq_getElem?_getD, List.getElem?_eq_getElem (by omega)]
      exact List.getElem_mem _
    have hb : bare (wOps (q.getD i nd0) (rwL P q o i).1) = bare (q.getD i nd0) := rfl
    have hG := hP _ _ a b (by rw [hb]; exact hQ _ hm) hN
    rw [hb, ← he] at hG
    refine ⟨hG.bd, ih.pre.trans hG.pre, ?_, fun j hj => ?_, ?_⟩
    · show ((rwL P q o i).1 ++ [_]).length = _
      rw [List.length_append, ih.len]; rfl
    · show rep (P (rwL P q o i).2 (wOps (q.getD i nd0) (rwL P q o i).1)).2 (((rwL P q o i).1 ++ [_]).getD j 0) _ ∧ _
      rw [snocN, ih.len]
      by_cases e : j = i
      · rw [if_pos e, e]; exact ⟨hG.rep, hG.ok⟩
      · rw [if_neg e]
        have := ih.at_ j (by omega)
        exact ⟨hG.keep this.1, this.2⟩
    · have h1 := hG.len
      have h2 := ih.few
      show (P (rwL P q o i).2 (wOps (q.getD i nd0) (rwL P q o i).1)).2.length ≤ _
      have : m * (i + 1) = m * i + m := Nat.mul_succ m i
      omega
/-- the place of the last result, and the list -/
def rwP (P : List Nd → Nd → Nat × List Nd) (q o : List Nd) : Nat × List Nd := ((rwL P q o q.length).1.getD (q.length - 1) 0, (rwL P q o q.length).2)
theorem rwP_ok {R : Nd → Tr → Tr → Tr} {m : Nat} {Q : Nd → Prop} {P : List Nd → Nd → Nat × List Nd} (hP : RuleOk m Q P R) {q o : List Nd} (hq : opsL q) (hne : q ≠ []) (ho : Bd o) (hQ : ∀ n ∈ q, Q (bare n)) : Gr (m * q.length) o (rwP P q o) (mapT R (treeAt q (q.length - 1))) := by
  have h := rw_ok hP hq ho hQ q.length (Nat.le_refl _)
  have hpos := List.length_pos_iff.2 hne
  have := h.at_ (q.length - 1) (by omega)
  exact ⟨h.bd, h.pre, this.1, this.2, h.few⟩
end Go.Proofs.Ws
/- Layer 8 as plain mathematics: the rules of simplification and of few operators. -/
namespace Go.Proofs.Ws
open Go
theorem Gr.ite {m : Nat} {o : List Nd} {p p' : Nat × List Nd} {t t' : Tr} {c d : Prop} [Decidable c] [Decidable d] (hc : c ↔ d) (h1 : c → d → Gr m o p t) (h2 : ¬ c → ¬ d → Gr m o p' t') : Gr m o (if c then p else p') (if d then t else t') := by
  by_cases h : c
  · rw [if_pos h, if_pos (hc.1 h)]; exact h1 h (hc.1 h)
  · rw [if_neg h, if_neg (fun k => h (hc.2 k))]; exact h2 h (fun k => h (hc.2 k))
/-- the operator at a place -/
def opTp (o : List Nd) (x : Nat) : Int := (o.getD x nd0).op
def oppT (a b : Tr) : Prop := a = notT b ∨ b = notT a
def oppP (o : List Nd) (x y : Nat) : Prop := o.getD x nd0 = jN 4 y 0 ∨ o.getD y nd0 = jN 4 x 0
instance (a b : Tr) : Decidable (oppT a b) := by unfold oppT; infer_instance
instance (o : List Nd) (x y : Nat) : Decidable (oppP o x y) := by unfold oppP; infer_instance
def sNotP (o : List Nd) (x : Nat) : Nat × List Nd := if opTp o x = 1 then cPut o 2 else if opTp o x = 2 then cPut o 1 else negP o x
def sNotT (a : Tr) : Tr := if topT a = 1 then cT 2 else if topT a = 2 then cT 1 else negT a
def sJoinP (o : List Nd) (n : Nd) (ne de : Int) (x y : Nat) : Nat × List Nd :=
  if opTp o x = de ∨ opTp o y = de then cPut o de else if opTp o x = ne then (y, o) else if opTp o y = ne ∨ x = y then (x, o) else if oppP o x y then cPut o de else putNd o n
def sJoinT (n : Nd) (ne de : Int) (a b : Tr) : Tr :=
  if topT a = de ∨ topT b = de then cT de else if topT a = ne then b else if topT b = ne ∨ a = b then a else if oppT a b then cT de else mkT n a b
def sImpP (o : List Nd) (n : Nd) (x y : Nat) : Nat × List Nd :=
  if opTp o x = 2 ∨ opTp o y = 1 ∨ x = y then cPut o 1 else if opTp o x = 1 then (y, o) else if opTp o y = 2 then negP o x else putNd o n
def sImpT (n : Nd) (a b : Tr) : Tr :=
  if topT a = 2 ∨ topT b = 1 ∨ a = b then cT 1 else if topT a = 1 then b else if topT b = 2 then negT a else mkT n a b
def sIffP (o : List Nd) (n : Nd) (x y : Nat) : Nat × List Nd :=
  if x = y then cPut o 1 else if oppP o x y then cPut o 2 else if opTp o x = 1 then (y, o) else if opTp o y = 1 then (x, o) else if opTp o x = 2 then negP o y else if opTp o y = 2 then negP o x else putNd o n
def sIffT (n : Nd) (a b : Tr) : Tr :=
  if a = b then cT 1 else if oppT a b then cT 2 else if topT a = 1 then b else if topT b = 1 then a else if topT a = 2 then negT b else if topT b = 2 then negT a else mkT n a b
def boxOp (op : Int) : Bool := decide (op = 9) || decide (op = 11) || decide (op = 12) || decide (op = 15) || decide (op = 17)
def simP (o : List Nd) (n : Nd) : Nat × List Nd :=
  if n.op = 4 then sNotP o n.x.toNat
  else if n.op = 5 then sJoinP o n 1 2 n.x.toNat n.y.toNat
  else if n.op = 6 then sJoinP o n 2 1 n.x.toNat n.y.toNat
  else if n.op = 7 then sImpP o n n.x.toNat n.y.toNat
  else if n.op = 8 then sIffP o n n.x.toNat n.y.toNat
  else if n.op = 10 then (if opTp o n.x.toNat = 2 then (n.x.toNat, o) else putNd o n)
  else if boxOp n.op = true then (if opTp o n.x.toNat = 1 then (n.x.toNat, o) else putNd o n)
  else if n.op = 16 then (if opTp o n.x.toNat = 1 then (n.y.toNat, o) else if opTp o n.x.toNat = 2 ∨ opTp o n.y.toNat = 1 then cPut o 1 else putNd o n)
  else if n.op = 13 ∨ n.op = 14 then (if opTp o n.x.toNat = 2 ∨ opTp o n.y.toNat = 1 then cPut o 1 else putNd o n)
  else putNd o n
def simT (n : Nd) (a b : Tr) : Tr :=
  if n.op = 4 then sNotT a
  else if n.op = 5 then sJoinT n 1 2 a b
  else if n.op = 6 then sJoinT n 2 1 a b
  else if n.op = 7 then sImpT n a b
  else if n.op = 8 then sIffT n a b
  else if n.op = 10 then (if topT a = 2 then a else mkT n a b)
  else if boxOp n.op = true then (if topT a = 1 then a else mkT n a b)
  else if n.op = 16 then (if topT a = 1 then b else if topT a = 2 ∨ topT b = 1 then cT 1 else mkT n a b)
  else if n.op = 13 ∨ n.op = 14 then (if topT a = 2 ∨ topT b = 1 then cT 1 else mkT n a b)
  else mkT n a b
/-- two places and their trees -/
structure Xy (o : List Nd) (x y : Nat) (a b : Tr) : Prop where
  bd : Bd o
  ra : rep o x a
  rb : rep o y b
  ka : trOk a
  kb : trOk b
theorem Xy.topA {o : List Nd} {x y : Nat} {a b : Tr} (h : Xy o x y a b) (c : Int) : opTp o x = c ↔ topT a = c := by rw [show opTp o x = topT a from h.bd.top h.ka h.ra]
theorem Xy.topB {o : List Nd} {x y : Nat} {a b : Tr} (h : Xy o x y a b) (c : Int) : opTp o y = c ↔ topT b = c := by rw [show opTp o y = topT b from h.bd.top h.kb h.rb]
theorem Xy.same {o : List Nd} {x y : Nat} {a b : Tr} (h : Xy o x y a b) : x = y ↔ a = b := h.bd.same h.ka h.kb h.ra h.rb
theorem Xy.opp {o : List Nd} {x y : Nat} {a b : Tr} (h : Xy o x y a b) : oppP o x y ↔ oppT a b := or_congr (h.bd.isNot h.ra h.rb h.ka h.kb) (h.bd.isNot h.rb h.ra h.kb h.ka)
theorem Xy.giveA {o : List Nd} {x y : Nat} {a b : Tr} (h : Xy o x y a b) : Gr 1 o (x, o) a := (Gr.old h.bd h.ra h.ka).mono (by omega)
theorem Xy.giveB {o : List Nd} {x y : Nat} {a b : Tr} (h : Xy o x y a b) : Gr 1 o (y, o) b := (Gr.old h.bd h.rb h.kb).mono (by omega)
theorem Xy.negA {o : List Nd} {x y : Nat} {a b : Tr} (h : Xy o x y a b) : Gr 1 o (negP o x) (negT a) := Gr.neg h.bd h.ra h.ka
theorem Xy.negB {o : List Nd} {x y : Nat} {a b : Tr} (h : Xy o x y a b) : Gr 1 o (negP o y) (negT b) := Gr.neg h.bd h.rb h.kb
theorem Bd.c1 {o : List Nd} (h : Bd o) : Gr 1 o (cPut o 1) (cT 1) := Gr.const h (by decide)
theorem Bd.c2 {o : List Nd} (h : Bd o) : Gr 1 o (cPut o 2) (cT 2) := Gr.const h (by decide)
theorem Nx.xy {o : List Nd} {n : Nd} {a b : Tr} (h : Nx o n a b) (hy : usesY n.op = true) : Xy o n.x.toNat n.y.toNat a b := by
  obtain ⟨k, h1, h2, h3⟩ := h.x (usesY_X hy)
  obtain ⟨l, h4, h5, h6⟩ := h.y hy
  exact ⟨h.bd, by rw [h1]; exact h2, by rw [h4]; exact h5, h3, h6⟩
theorem Nx.xx {o : List Nd} {n : Nd} {a b : Tr} (h : Nx o n a b) (hx : usesX n.op = true) : Xy o n.x.toNat n.x.toNat a a := by
  obtain ⟨k, h1, h2, h3⟩ := h.x hx
  exact ⟨h.bd, by rw [h1]; exact h2, by rw [h1]; exact h2, h3, h3⟩
theorem sJoin_ok {o : List Nd} {n : Nd} {x y : Nat} {a b : Tr} (h : Xy o x y a b) (hN : Gr 1 o (putNd o n) (mkT (bare n) a b)) {ne de : Int} (hd : usesX de = false) : Gr 1 o (sJoinP o n ne de x y) (sJoinT (bare n) ne de a b) := by
  refine Gr.ite (or_congr (h.topA _) (h.topB _)) (fun _ _ => Gr.const h.bd hd) fun _ _ => ?_
  refine Gr.ite (h.topA _) (fun _ _ => h.giveB) fun _ _ => ?_
  refine Gr.ite (or_congr (h.topB _) h.same) (fun _ _ => h.giveA) fun _ _ => ?_
  exact Gr.ite h.opp (fun _ _ => Gr.const h.bd hd) fun _ _ => hN
theorem sim_rule (Q : Nd → Prop) : RuleOk 1 Q simP simT := by
  intro o n a b _ h
  have hN := h.add
  unfold simP simT
  refine Gr.ite (Iff.rfl : n.op = 4 ↔ (bare n).op = 4) (fun e _ => ?_) fun _ _ => ?_
  · have hx := h.xx (by rw [e]; decide)
    refine Gr.ite (hx.topA _) (fun _ _ => h.bd.c2) fun _ _ => ?_
    exact Gr.ite (hx.topA _) (fun _ _ => h.bd.c1) fun _ _ => hx.negA
  refine Gr.ite (Iff.rfl : n.op = 5 ↔ (bare n).op = 5) (fun e _ => sJoin_ok (h.xy (by rw [e]; decide)) hN (by decide)) fun _ _ => ?_
  refine Gr.ite (Iff.rfl : n.op = 6 ↔ (bare n).op = 6) (fun e _ => sJoin_ok (h.xy (by rw [e]; decide)) hN (by decide)) fun _ _ => ?_
  refine Gr.ite (Iff.rfl : n.op = 7 ↔ (bare n).op = 7) (fun e _ => ?_) fun _ _ => ?_
  · have hx := h.xy (by rw [e]; decide)
    refine Gr.ite (or_congr (hx.topA _) (or_congr (hx.topB _) hx.same)) (fun _ _ => h.bd.c1) fun _ _ => ?_
    refine Gr.ite (hx.topA _) (fun _ _ => hx.giveB) fun _ _ => ?_
    exact Gr.ite (hx.topB _) (fun _ _ => hx.negA) fun _ _ => hN
  refine Gr.ite (Iff.rfl : n.op = 8 ↔ (bare n).op = 8) (fun e _ => ?_) fun _ _ => ?_
  · have hx := h.xy (by rw [e]; decide)
    refine Gr.ite hx.same (fun _ _ => h.bd.c1) fun _ _ => ?_
    refine Gr.ite hx.opp (fun _ _ => h.bd.c2) fun _ _ => ?_
    refine Gr.ite (hx.topA _) (fun _ _ => hx.giveB) fun _ _ => ?_
    refine Gr.ite (hx.topB _) (fun _ _ => hx.giveA) fun _ _ => ?_
    refine Gr.ite (hx.topA _) (fun _ _ => hx.negB) fun _ _ => ?_
    exact Gr.ite (hx.topB _) (fun _ _ => hx.negA) fun _ _ => hN
  refine Gr.ite (Iff.rfl : n.op = 10 ↔ (bare n).op = 10) (fun e _ => ?_) fun _ _ => ?_
  · have hx := h.xx (by rw [e]; decide)
    exact Gr.ite (hx.topA _) (fun _ _ => hx.giveA) fun _ _ => hN
  refine Gr.ite (Iff.rfl : boxOp n.op = true ↔ boxOp (bare n).op = true) (fun e _ => ?_) fun _ _ => ?_
  · have hx := h.xx (by
      unfold boxOp at e
      unfold usesX
      simp only [Bool.or_eq_true, Bool.and_eq_true, decide_eq_true_eq] at e ⊢
      omega)
    exact Gr.ite (hx.topA _) (fun _ _ => hx.giveA) fun _ _ => hN
  refine Gr.ite (Iff.rfl : n.op = 16 ↔ (bare n).op = 16) (fun e _ => ?_) fun _ _ => ?_
  · have hx := h.xy (by rw [e]; decide)
    refine Gr.ite (hx.topA _) (fun _ _ => hx.giveB) fun _ _ => ?_
    exact Gr.ite (or_congr (hx.topA _) (hx.topB _)) (fun _ _ => h.bd.c1) fun _ _ => hN
  refine Gr.ite (Iff.rfl : (n.op = 13 ∨ n.op = 14) ↔ ((bare n).op = 13 ∨ (bare n).op = 14)) (fun e _ => ?_) fun _ _ => hN
  have hx := h.xy (by rcases e with e | e <;> (rw [e]; decide))
  exact Gr.ite (or_congr (hx.topA _) (hx.topB _)) (fun _ _ => h.bd.c1) fun _ _ => hN
/-- few operators -/
def wihP (o : List Nd) (x y : Nat) : Nat × List Nd := nPut (jPut (nPut o y).2 5 x (nPut o y).1).2 (jPut (nPut o y).2 5 x (nPut o y).1).1
def wihT (a b : Tr) : Tr := notT (jT 5 a (notT b))
theorem Xy.without {o : List Nd} {x y : Nat} {a b : Tr} (h : Xy o x y a b) : Gr 3 o (wihP o x y) (wihT a b) := by
  have g1 := Gr.not h.bd h.rb h.kb
  have g2 := Gr.join g1.bd (op := 5) (by decide) (g1.keep h.ra) g1.rep h.ka g1.ok
  have g3 := Gr.not g2.bd g2.rep g2.ok
  exact (g1.then g2).then g3
end Go.Proofs.Ws
/- Layer 8 as plain mathematics: substitution, and the negation normal form. -/
namespace Go.Proofs.Ws
open Go
def tOf (f : List Nd) : Tr := treeAt f (f.length - 1)
def subR (ts : List Tr) (n : Nd) (a b : Tr) : Tr := if n.op = 3 ∧ n.i.toNat < ts.length then ts.getD n.i.toNat noT else mkT n a b
/-- the forms of a node and of its negation, of those of its operands -/
def dualOf (op : Int) : Int := if op = 1 then 2 else if op = 2 then 1 else if op = 5 then 6 else if op = 6 then 5 else if op = 9 then 10 else if op = 10 then 9 else 0
def nfPos (n : Nd) (a b : Tr × Tr) : Tr := if n.op = 4 then a.2 else if n.op = 7 then jT 6 a.2 b.1 else if n.op = 8 then jT 5 (jT 6 a.2 b.1) (jT 6 a.1 b.2) else mkT n a.1 b.1
def nfNeg (n : Nd) (a b : Tr × Tr) : Tr :=
  if n.op = 4 then a.1 else if n.op = 7 then jT 5 a.1 b.2 else if n.op = 8 then jT 6 (jT 5 a.1 b.2) (jT 5 a.2 b.1)
  else if dualOf n.op ≠ 0 then mkT { n with op := dualOf n.op } a.2 b.2 else notT (nfPos n a b)
def nfT : Tr → Tr × Tr
  | .leaf n => (nfPos n (noT, noT) (noT, noT), nfNeg n (noT, noT) (noT, noT))
  | .un n a => (nfPos n (nfT a) (noT, noT), nfNeg n (nfT a) (noT, noT))
  | .bin n a b => (nfPos n (nfT a) (nfT b), nfNeg n (nfT a) (nfT b))
/-- the program's steps: xp, xn, yp, yn are the places of the forms of the operands and of their negations -/
def nfPosP (o : List Nd) (n np : Nd) (xp xn yp yn : Nat) : Nat × List Nd :=
  if n.op = 4 then (xn, o) else if n.op = 7 then jPut o 6 xn yp
  else if n.op = 8 then jPut (jPut (jPut o 6 xn yp).2 6 xp yn).2 5 (jPut o 6 xn yp).1 (jPut (jPut o 6 xn yp).2 6 xp yn).1 else putNd o np
def nfNegP (o : List Nd) (n np nn : Nd) (xp xn yp yn : Nat) : Nat × List Nd :=
  if n.op = 4 then (xp, o) else if n.op = 7 then jPut o 5 xp yn
  else if n.op = 8 then jPut (jPut (jPut o 5 xp yn).2 5 xn yp).2 6 (jPut o 5 xp yn).1 (jPut (jPut o 5 xp yn).2 5 xn yp).1
  else if dualOf n.op ≠ 0 then putNd o nn else nPut (nfPosP o n np xp xn yp yn).2 (nfPosP o n np xp xn yp yn).1
/-- four places and their trees; the node over the forms, and the dual one over those of the negations -/
structure Nf (o : List Nd) (n np nn : Nd) (xp xn yp yn : Nat) (a b : Tr × Tr) : Prop where
  bd : Bd o
  p : Nx o np a.1 b.1
  q : dualOf n.op ≠ 0 → Nx o nn a.2 b.2
  x : usesX n.op = true → rep o xp a.1 ∧ rep o xn a.2 ∧ trOk a.1 ∧ trOk a.2
  y : usesY n.op = true → rep o yp b.1 ∧ rep o yn b.2 ∧ trOk b.1 ∧ trOk b.2
  bp : bare np = bare n
  bn : bare nn = { bare n with op := dualOf n.op }
theorem Nf.keep {o o' : List Nd} {n np nn : Nd} {xp xn yp yn : Nat} {a b : Tr × Tr} (h : Nf o n np nn xp xn yp yn a b) (hb : Bd o') (hp : o <+: o') : Nf o' n np nn xp xn yp yn a b := by
  have nx : ∀ {m : Nd} {s t : Tr}, Nx o m s t → Nx o' m s t := fun k => ⟨hb, fun u => by
    obtain ⟨i, h1, h2, h3⟩ := k.x u; exact ⟨i, h1, rep_mono hp _ _ h2, h3⟩, fun u => by
    obtain ⟨i, h1, h2, h3⟩ := k.y u; exact ⟨i, h1, rep_mono hp _ _ h2, h3⟩, k.nx, k.ny⟩
  exact ⟨hb, nx h.p, fun u => nx (h.q u), fun u => ⟨rep_mono hp _ _ (h.x u).1, rep_mono hp _ _ (h.x u).2.1, (h.x u).2.2⟩, fun u => ⟨rep_mono hp _ _ (h.y u).1, rep_mono hp _ _ (h.y u).2.1, (h.y u).2.2⟩, h.bp, h.bn⟩
theorem Nf.pos {o : List Nd} {n np nn : Nd} {xp xn yp yn : Nat} {a b : Tr × Tr} (h : Nf o n np nn xp xn yp yn a b) : Gr 3 o (nfPosP o n np xp xn yp yn) (nfPos (bare n) a b) := by
  unfold nfPosP nfPos
  refine Gr.ite (Iff.rfl : n.op = 4 ↔ (bare n).op = 4) (fun e _ => ?_) fun _ _ => ?_
  · have hx := h.x (by rw [e]; decide)
    exact (Gr.old h.bd hx.2.1 hx.2.2.2).mono (by omega)
  refine Gr.ite (Iff.rfl : n.op = 7 ↔ (bare n).op = 7) (fun e _ => ?_) fun _ _ => ?_
  · have hx := h.x (by rw [e]; decide)
    have hy := h.y (by rw [e]; decide)
    exact (Gr.join h.bd (op := 6) (by decide) hx.2.1 hy.1 hx.2.2.2 hy.2.2.1).mono (by omega)
  refine Gr.ite (Iff.rfl : n.op = 8 ↔ (bare n).op = 8) (fun e _ => ?_) fun _ _ => ?_
  · have hx := h.x (by rw [e]; decide)
    have hy := h.y (by rw [e]; decide)
    have g1 := Gr.join h.bd (op := 6) (by decide) hx.2.1 hy.1 hx.2.2.2 hy.2.2.1
    have g2 := Gr.join g1.bd (op := 6) (by decide) (g1.keep hx.1) (g1.keep hy.2.1) hx.2.2.1 hy.2.2.2
    exact (g1.then g2).then (Gr.join g2.bd (op := 5) (by decide) (g2.keep g1.rep) g2.rep g1.ok g2.ok)
  have := h.p.add
  rw [h.bp] at this
  exact this.mono (by omega)
theorem Nf.neg {o : List Nd} {n np nn : Nd} {xp xn yp yn : Nat} {a b : Tr × Tr} (h : Nf o n np nn xp xn yp yn a b) : Gr 4 o (nfNegP o n np nn xp xn yp yn) (nfNeg (bare n) a b) := by
  unfold nfNegP nfNeg
  refine Gr.ite (Iff.rfl : n.op = 4 ↔ (bare n).op = 4) (fun e _ => ?_) fun _ _ => ?_
  · have hx := h.x (by rw [e]; decide)
    exact (Gr.old h.bd hx.1 hx.2.2.1).mono (by omega)
  refine Gr.ite (Iff.rfl : n.op = 7 ↔ (bare n).op = 7) (fun e _ => ?_) fun _ _ => ?_
  · have hx := h.x (by rw [e]; decide)
    have hy := h.y (by rw [e]; decide)
    exact (Gr.join h.bd (op := 5) (by decide) hx.1 hy.2.1 hx.2.2.1 hy.2.2.2).mono (by omega)
  refine Gr.ite (Iff.rfl : n.op = 8 ↔ (bare n).op = 8) (fun e _ => ?_) fun _ _ => ?_
  · have hx := h.x (by rw [e]; decide)
    have hy := h.y (by rw [e]; decide)
    have g1 := Gr.join h.bd (op := 5) (by decide) hx.1 hy.2.1 hx.2.2.1 hy.2.2.2
    have g2 := Gr.join g1.bd (op := 5) (by decide) (g1.keep hx.2.1) (g1.keep hy.1) hx.2.2.2 hy.2.2.1
    exact ((g1.then g2).then (Gr.join g2.bd (op := 6) (by decide) (g2.keep g1.rep) g2.rep g1.ok g2.ok)).mono (by omega)
  refine Gr.ite (Iff.rfl : dualOf n.op ≠ 0 ↔ dualOf (bare n).op ≠ 0) (fun e _ => ?_) fun _ _ => ?_
  · have := (h.q e).add
    rw [h.bn] at this
    exact this.mono (by omega)
  · have g := h.pos
    exact g.then (Gr.not g.bd g.rep g.ok)
/-- the loop over the nodes: the forms, those of the negations, the list -/
structure NS where
  fo : List Nat
  ne : List Nat
  o : List Nd
def dN (n : Nd) : Nd := { n with op := dualOf n.op }
structure NfS (q : List Nd) (i : Nat) (s : NS) : Prop where
  bd : Bd s.o
  lf : s.fo.length = i
  ln : s.ne.length = i
  at_ : ∀ j, j < i → rep s.o (s.fo.getD j 0) (nfT (treeAt q j)).1 ∧ rep s.o (s.ne.getD j 0) (nfT (treeAt q j)).2 ∧ trOk (nfT (treeAt q j)).1 ∧ trOk (nfT (treeAt q j)).2
  few : s.o.length ≤ 7 * i
theorem dual_uses {op : Int} (h : dualOf op ≠ 0) : usesX (dualOf op) = usesX op ∧ usesY (dualOf op) = usesY op := by
  unfold dualOf at h ⊢
  by_cases h1 : op = 1
  · subst h1; decide
  by_cases h2 : op = 2
  · subst h2; decide
  by_cases h5 : op = 5
  · subst h5; decide
  by_cases h6 : op = 6
  · subst h6; decide
  by_cases h9 : op = 9
  · subst h9; decide
  by_cases h10 : op = 10
  · subst h10; decide
  · rw [if_neg h1, if_neg h2, if_neg h5, if_neg h6, if_neg h9, if_neg h10] at h; exact absurd rfl h
theorem nfT_eq {q : List Nd} (hq : opsL q) {i : Nat} (hi : i < q.length) : ∃ a b : Tr × Tr, nfT (treeAt q i) = (nfPos (bare (q.getD i nd0)) a b, nfNeg (bare (q.getD i nd0)) a b) ∧
    (usesX (q.getD i nd0).op = true → a = nfT (treeAt q (q.getD i nd0).x.toNat)) ∧ (usesY (q.getD i nd0).op = true → b = nfT (treeAt q (q.getD i nd0).y.toNat)) := by
  rw [treeAt_eq hq hi]
  by_cases hy : usesY (q.getD i nd0).op = true
  · rw [if_pos hy]
    exact ⟨_, _, rfl, fun _ => rfl, fun _ => rfl⟩
  · rw [if_neg hy]
    by_cases hx : usesX (q.getD i nd0).op = true
    · rw [if_pos hx]
      exact ⟨_, (noT, noT), rfl, fun _ => rfl, fun k => absurd k hy⟩
    · rw [if_neg hx]
      exact ⟨(noT, noT), (noT, noT), rfl, fun k => absurd k hx, fun k => absurd k hy⟩
theorem NfS.nf {q : List Nd} (hq : opsL q) {i : Nat} (hi : i < q.length) {s : NS} (h : NfS q i s) :
    ∃ a b : Tr × Tr, Nf s.o (q.getD i nd0) (wOps (q.getD i nd0) s.fo) (wOps (dN (q.getD i nd0)) s.ne) (s.fo.getD (q.getD i nd0).x.toNat 0) (s.ne.getD (q.getD i nd0).x.toNat 0) (s.fo.getD (q.getD i nd0).y.toNat 0) (s.ne.getD (q.getD i nd0).y.toNat 0) a b ∧
      nfT (treeAt q i) = (nfPos (bare (q.getD i nd0)) a b, nfNeg (bare (q.getD i nd0)) a b) := by
  obtain ⟨a, b, he, ha, hb⟩ := nfT_eq hq hi
  have hop := hq i hi
  refine ⟨a, b, ⟨h.bd, ⟨h.bd, fun k => ?_, fun k => ?_, fun k => ?_, fun k => ?_⟩, fun hd => ⟨h.bd, fun k => ?_, fun k => ?_, fun k => ?_, fun k => ?_⟩, fun k => ?_, fun k => ?_, rfl, rfl⟩, he⟩
  · have k : usesX (q.getD i nd0).op = true := k
    have := h.at_ _ (opsOk_x hop k).2
    rw [ha k]
    exact ⟨_, if_pos k, this.1, this.2.2.1⟩
  · have k : usesY (q.getD i nd0).op = true := k
    have := h.at_ _ (opsOk_y hop k).2
    rw [hb k]
    exact ⟨_, if_pos k, this.1, this.2.2.1⟩
  · have k : usesX (q.getD i nd0).op = false := k
    have h0 := hop.1
    rw [if_neg (by rw [k]; decide)] at h0
    exact (if_neg (by rw [k]; decide)).trans h0
  · have k : usesY (q.getD i nd0).op = false := k
    have h0 := hop.2
    rw [if_neg (by rw [k]; decide)] at h0
    exact (if_neg (by rw [k]; decide)).trans h0
  · have kd : usesX (dualOf (q.getD i nd0).op) = true := k
    have k : usesX (q.getD i nd0).op = true := by rw [← (dual_uses hd).1]; exact kd
    have := h.at_ _ (opsOk_x hop k).2
    rw [ha k]
    exact ⟨_, if_pos kd, this.2.1, this.2.2.2⟩
  · have kd : usesY (dualOf (q.getD i nd0).op) = true := k
    have k : usesY (q.getD i nd0).op = true := by rw [← (dual_uses hd).2]; exact kd
    have := h.at_ _ (opsOk_y hop k).2
    rw [hb k]
    exact ⟨_, if_pos kd, this.2.1, this.2.2.2⟩
  · have kd : usesX (dualOf (q.getD i nd0).op) = false := k
    have k : usesX (q.getD i nd0).op = false := by rw [← (dual_uses hd).1]; exact kd
    have h0 := hop.1
    rw [if_neg (by rw [k]; decide)] at h0
    exact (if_neg (show ¬ usesX (dualOf (q.getD i nd0).op) = true by rw [kd]; decide)).trans h0
  · have kd : usesY (dualOf (q.getD i nd0).op) = false := k
    have k : usesY (q.getD i nd0).op = false := by rw [← (dual_uses hd).2]; exact kd
    have h0 := hop.2
    rw [if_neg (by rw [k]; decide)] at h0
    exact (if_neg (show ¬ usesY (dualOf (q.getD i nd0).op) = true by rw [kd]; decide)).trans h0
  · have := h.at_ _ (opsOk_x hop k).2
    rw [ha k]
    exact this
  · have := h.at_ _ (opsOk_y hop k).2
    rw [hb k]
    exact this
end Go.Proofs.Ws
