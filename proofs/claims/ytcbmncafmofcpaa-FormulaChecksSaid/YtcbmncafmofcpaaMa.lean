/- Layer 5: the canonical list of a formula is a formula. -/
import Derived.Test.YtcbmncafmofcpaaKzc
namespace Go.Proofs.Ws
open Go
/-- the fields of a node that do not depend on its place -/
def fldOk (n : Nd) : Prop := known n.op = true ∧ ((n.op = 3 ∨ hasAgent n.op = true ∨ n.op = 17 ∨ n.i = 0) ∧ (n.op = 17 ∨ n.e = 0) ∧ (hasGroup n.op = true ∨ n.g = 0)) ∧ rangeOk n = true
theorem formOk_iff (n : Nd) (k : Nat) : formOk n (k : Int) = true ↔ opsOk n k ∧ ((n.op = 3 ∨ hasAgent n.op = true ∨ n.op = 17 ∨ n.i = 0) ∧ (n.op = 17 ∨ n.e = 0) ∧ (hasGroup n.op = true ∨ n.g = 0)) := by
  unfold formOk opsOk
  simp only [Bool.and_eq_true, Bool.or_eq_true, decide_eq_true_eq]
  by_cases hx : usesX n.op = true <;> by_cases hy : usesY n.op = true <;> simp [hx, hy, and_assoc, or_assoc]
theorem nodeErr_iff (n : Nd) (k : Nat) : nodeErr n (k : Int) = 0 ↔ opsOk n k ∧ fldOk n := by
  constructor
  · intro h
    obtain ⟨h1, h2, h3⟩ := nodeErr_ok h
    obtain ⟨h4, h5⟩ := (formOk_iff n k).1 h2
    exact ⟨h4, h1, h5, h3⟩
  · rintro ⟨h4, h1, h5, h3⟩
    have h2 := (formOk_iff n k).2 ⟨h4, h5⟩
    unfold nodeErr
    rw [h1, h2, h3]; rfl
theorem errFrom_zero (l : List Nd) : ∀ (m k : Nat), l.length - k ≤ m → (∀ j, k ≤ j → j < l.length → nodeErr (l.getD j nd0) (j : Int) = 0) → errFrom k (l.drop k) = 0 := by
  intro m
  induction m with
  | zero => intro k h _; rw [List.drop_of_length_le (by omega)]; rfl
  | succ m ih =>
    intro k h he
    by_cases hk : k < l.length
    · rw [List.drop_eq_getElem_cons hk]
      have hg : l.getD k nd0 = l[k] := by simp [hk]
      have h0 := he k (Nat.le_refl _) hk
      rw [hg] at h0
      show (if nodeErr l[k] (k : Int) ≠ 0 then nodeErr l[k] (k : Int) else errFrom (k + 1) (l.drop (k + 1))) = 0
      rw [h0, if_neg (by simp)]
      exact ih (k + 1) (by omega) (fun j h1 h2 => he j (by omega) h2)
    · rw [List.drop_of_length_le (by omega)]; rfl
theorem fErr_zero {l : List Nd} (hne : l ≠ []) (hl : l.length ≤ 200) (h : ∀ j, j < l.length → opsOk (l.getD j nd0) j ∧ fldOk (l.getD j nd0)) : fErr l = 0 := by
  have h0 : l.length ≠ 0 := by simpa using hne
  unfold fErr
  rw [if_neg h0, if_neg (by omega)]
  have := errFrom_zero l l.length 0 (by omega) (fun j _ hj => (nodeErr_iff _ j).2 (h j hj))
  simpa using this
theorem fErr_fld {l : List Nd} (h : fErr l = 0) : ∀ n ∈ l, fldOk n := by
  intro n hn
  obtain ⟨j, hj, hj2⟩ := List.getElem_of_mem hn
  have := (nodeErr_iff _ j).1 ((fErr_ok h).2.2 j hj)
  rw [show l.getD j nd0 = n from by simp [hj, hj2]] at this
  exact this.2
theorem getD_mem {l : List Nd} {j : Nat} (h : j < l.length) : l.getD j nd0 ∈ l := by
  rw [show l.getD j nd0 = l[j] from by simp [h]]; exact List.getElem_mem h
theorem canT_fld {f : List Nd} (hf : opsL f) (hF : ∀ n ∈ f, fldOk n) {i : Nat} (hi : i < f.length) : ∀ n ∈ canT (treeAt f i), fldOk n :=
  finT_all (P := fldOk) (treeAt f i) (treeAt_ok hf (i + 1) i (by omega) hi) (treeAt_all hf (fun n hn => hF n hn) (i + 1) i (by omega) hi) (fun n hn => absurd hn (by simp))
theorem finT_ne (t : Tr) (o : List Nd) : (finT t o).2 ≠ [] := fun e => by have := finT_lt t o; rw [e] at this; simp at this
theorem canT_ok {f : List Nd} (hf : opsL f) (hF : ∀ n ∈ f, fldOk n) {i : Nat} (hi : i < f.length) (hl : (canT (treeAt f i)).length ≤ 200) : fErr (canT (treeAt f i)) = 0 :=
  fErr_zero (finT_ne _ _) hl (fun _ hj => ⟨canT_ops (treeAt_ok hf (i + 1) i (by omega) hi) _ hj, canT_fld hf hF hi _ (getD_mem hj)⟩)
theorem compF_tree {f : List Nd} (h : fErr f = 0) : compF f = canT (treeAt f (f.length - 1)) := by
  unfold compF; rw [if_pos h, canonF_tree (fErr_ops h) (fErr_ok h).1]
end Go.Proofs.Ws
namespace Go.Proofs.Ytcbmncafmofcpaa
open Go.RowKit Go.Proofs.Ws Go.Maps
theorem compF_ok {f : List Nd} (h : fErr f = 0) : fErr (compF f) = 0 := by
  have hne : f.length ≠ 0 := by simpa using (fErr_ok h).1
  have hl := compF_le f
  have h2 := (fErr_ok h).2.1
  rw [compF_tree h] at hl ⊢
  exact canT_ok (fErr_ops h) (fErr_fld h) (by omega) (by omega)
theorem compF_fld (f : List Nd) : ∀ n ∈ compF f, fldOk n := by
  by_cases h : fErr f = 0
  · exact fErr_fld (compF_ok h)
  · unfold compF; rw [if_neg h]; intro n hn; simp at hn
theorem own_cap {w : World} {base size n c : Nat} {e : TypeId} {A : Option Addr} {xs : List Value} (h : w.ownsRow base e size (.slice A n c) n xs) : n ≤ c := by
  rcases h.2 with ⟨hv, h0⟩ | ⟨g, cap, cur, hv, _, _, hle, _⟩
  · omega
  · injection hv with _ _ h3
    omega
/-- the subformulas -/
def subsF (f : List Nd) : List (List Nd) := (List.range (compF f).length).map (fun i => canonF ((compF f).take (i + 1)))
/-- a list of lists of nodes -/
structure LL (W : World) (base : Nat) (v : Value) (ls : List (List Nd)) : Prop where
  row : ∃ vs, W.ownsRow base 22 1 v ls.length vs ∧ ∀ j, j < ls.length → ∃ A c, vs[j]? = some (.slice A (ls.getD j []).length c) ∧ W.ownsRow 0 44 6 (.slice A (ls.getD j []).length c) (ls.getD j []).length (nds (ls.getD j []))
theorem LL.nil (W : World) (base : Nat) : LL W base (.slice none 0 0) [] := ⟨[], World.ownsRow_nil _ _ _ _, fun j hj => absurd hj (by simp)⟩
theorem LL.below {W W' : World} {base : Nat} {v : Value} {ls : List (List Nd)} (h : LL W base v ls) (hb : Below W.heap.size W W') : LL W' base v ls := by
  obtain ⟨vs, h1, h2⟩ := h.row
  refine ⟨vs, own_keep1 h1 (fun g hg => hb.block g (h1.lt g hg).2), fun j hj => ?_⟩
  obtain ⟨A, c, h3, h4⟩ := h2 j hj
  exact ⟨A, c, h3, own_keep1 h4 (fun g hg => hb.block g (h4.lt g hg).2)⟩
theorem own_type {W : World} {b size n : Nat} {e : TypeId} {v : Value} {xs : List Value} (h : W.ownsRow b e size v n xs) {g : Nat} (hg : v.ownBlock = some g) : ∃ cur, W.heap[g]? = some (.cells cur e (0, 0)) := by
  rcases h.2 with ⟨rfl, _⟩ | ⟨g2, cap, cur, rfl, _, h2, _⟩
  · cases hg
  · have e2 : g2 = g := by injection hg
    subst e2
    exact ⟨cur, h2⟩
theorem own_apart {W : World} {b b2 size size2 n n2 : Nat} {e e2 : TypeId} {v v2 : Value} {xs xs2 : List Value} (h : W.ownsRow b e size v n xs) (h2 : W.ownsRow b2 e2 size2 v2 n2 xs2) (hne : e ≠ e2) {g : Nat} (hg : v.ownBlock = some g) : v2.ownBlock ≠ some g := by
  intro hg2
  obtain ⟨c1, k1⟩ := own_type h hg
  obtain ⟨c2, k2⟩ := own_type h2 hg2
  rw [k1] at k2
  injection k2 with k2
  injection k2 with _ k3
  exact hne k3
theorem LL.app {W w3 : World} {base : Nat} {v v' : Value} {ls : List (List Nd)} {l : List Nd} {A : Option Addr} {c : Nat} {o : Obj} {vs : List Value} (h1 : W.ownsRow base 22 1 v ls.length vs)
    (h2 : ∀ j, j < ls.length → ∃ A c, vs[j]? = some (.slice A (ls.getD j []).length c) ∧ W.ownsRow 0 44 6 (.slice A (ls.getD j []).length c) (ls.getD j []).length (nds (ls.getD j [])))
    (hR : W.ownsRow 0 44 6 (.slice A l.length c) l.length (nds l))
    (hown : w3.ownsRow base 22 1 v' (ls.length + 1) (vs ++ [.slice A l.length c])) (hg : (W.alloc o).grownBy w3 v.ownBlock) : LL w3 base v' (ls ++ [l]) := by
  have hvl : vs.length = ls.length := by have := h1.1; omega
  have hlen : (ls ++ [l]).length = ls.length + 1 := by simp
  have keep : ∀ (m : List Nd) (A' : Option Addr) (c' : Nat), W.ownsRow 0 44 6 (.slice A' m.length c') m.length (nds m) → w3.ownsRow 0 44 6 (.slice A' m.length c') m.length (nds m) := by
    intro m A' c' hr
    refine own_keep1 hr (fun g hgg => ?_)
    have hlt := (hr.lt g hgg).2
    exact (hg.block g (Nat.lt_of_lt_of_le hlt (by simp)) (fun e => own_apart hr h1 (by decide) hgg e.symm)).trans (Below.heap_alloc W o g hlt)
  refine ⟨vs ++ [.slice A l.length c], by rw [hlen]; exact hown, fun j hj => ?_⟩
  rw [hlen] at hj
  by_cases e : j = ls.length
  · subst e
    have e1 : (ls ++ [l]).getD ls.length [] = l := by rw [List.getD_eq_getElem?_getD]; simp
    rw [e1]
    exact ⟨A, c, by rw [← hvl]; simp, keep l A c hR⟩
  · have hj2 : j < ls.length := by omega
    have e1 : (ls ++ [l]).getD j [] = ls.getD j [] := by rw [List.getD_eq_getElem?_getD, List.getElem?_append_left hj2, ← List.getD_eq_getElem?_getD]
    rw [e1]
    obtain ⟨A2, c2, h3, h4⟩ := h2 j hj2
    exact ⟨A2, c2, by rw [List.getElem?_append_left (by omega)]; exact h3, keep _ A2 c2 h4⟩
end Go.Proofs.Ytcbmncafmofcpaa
