/- Layer 5: subformulas: depth, fragments, order (mathematics). -/
import Derived.Test.YtcbmncafmofcpaaMe
import Derived.Test.YtcbmncafmofcpaaMf
import Derived.Test.YtcbmncafmofcpaaKzd
import Derived.Test.YtcbmncafmofcpaaKpa
namespace Go.Proofs.Ytcbmncafmofcpaa
open Go.RowKit Go.Proofs.Ws Go.Maps
/-- a node's own depth -/
def mOf (op : Int) : Int := if modalOp op = true then 1 else 0
/-- the depth of a tree -/
def depT : Tr → Int
  | .leaf n => mOf n.op
  | .un n a => depT a + mOf n.op
  | .bin n a b => max (depT a) (depT b) + mOf n.op
theorem mOf_leaf {op : Int} (h : usesX op = false) : mOf op = 0 := by
  unfold mOf
  rw [if_neg]
  unfold usesX at h
  unfold modalOp
  simp only [Bool.and_eq_false_iff, decide_eq_false_iff_not, Bool.or_eq_true, Bool.and_eq_true, decide_eq_true_eq] at h ⊢
  omega
theorem mOf_nonneg (op : Int) : 0 ≤ mOf op := by unfold mOf; split <;> omega
theorem depT_nonneg : ∀ t : Tr, 0 ≤ depT t
  | .leaf n => mOf_nonneg n.op
  | .un n a => by have := depT_nonneg a; have := mOf_nonneg n.op; show 0 ≤ depT a + mOf n.op; omega
  | .bin n a b => by have := depT_nonneg a; have := mOf_nonneg n.op; show 0 ≤ max (depT a) (depT b) + mOf n.op; omega
theorem depT_sub {s : Tr} : ∀ {t : Tr}, subT s t → depT s ≤ depT t
  | .leaf n, h => by have h : s = .leaf n := h; rw [h]; exact Int.le_refl _
  | .un n a, h => by
    rcases h with h | h
    · rw [h]; exact Int.le_refl _
    · have := depT_sub h
      have := mOf_nonneg n.op
      show depT s ≤ depT a + mOf n.op
      omega
  | .bin n a b, h => by
    have := mOf_nonneg n.op
    rcases h with h | h | h
    · rw [h]; exact Int.le_refl _
    · have := depT_sub h
      show depT s ≤ max (depT a) (depT b) + mOf n.op
      omega
    · have := depT_sub h
      show depT s ≤ max (depT a) (depT b) + mOf n.op
      omega
theorem first_leaf {o : List Nd} (ho : opsL o) (h : 0 < o.length) : usesX (o.getD 0 nd0).op = false := by
  cases hx : usesX (o.getD 0 nd0).op with
  | false => rfl
  | true => have := opsOk_x (ho 0 h) hx; omega
theorem depT_first {o : List Nd} (ho : opsL o) (h : 0 < o.length) : depT (treeAt o 0) = 0 := by
  have hx := first_leaf ho h
  have hy : usesY (o.getD 0 nd0).op = false := by
    cases hy : usesY (o.getD 0 nd0).op with
    | false => rfl
    | true => rw [usesY_X hy] at hx; cases hx
  rw [treeAt_eq ho h, if_neg (by rw [hy]; simp), if_neg (by rw [hx]; simp)]
  exact mOf_leaf hx
/-- the depth of a node is its tree's -/
theorem dep_tree {o : List Nd} (ho : opsL o) : ∀ k, k ≤ o.length → ∀ j, j < k → (dpL o k).getD j 0 = depT (treeAt o j) := by
  intro k
  induction k with
  | zero => intro _ j h; omega
  | succ k ih =>
    intro hk j hj
    have hl := dpL_len o k (by omega)
    rw [dpL_succ o k (by omega)]
    by_cases e : j < k
    · rw [List.getD_eq_getElem?_getD, List.getElem?_append_left (by omega), ← List.getD_eq_getElem?_getD]
      exact ih (by omega) j e
    · have e2 : j = k := by omega
      subst e2
      rw [List.getD_eq_getElem?_getD, List.getElem?_append_right (by omega), hl]
      simp only [Nat.sub_self, List.getElem?_cons_zero, Option.getD_some]
      have hop := ho j (by omega)
      have ih := ih (by omega)
      have h0 : (dpL o j).getD 0 0 = 0 := by
        by_cases hz : 0 < j
        · rw [ih 0 hz, depT_first ho (by omega)]
        · have : dpL o j = [] := List.length_eq_zero_iff.1 (by omega)
          rw [this]; rfl
      rw [treeAt_eq ho (show j < o.length by omega)]
      unfold depStep
      by_cases hy : usesY (o.getD j nd0).op = true
      · have h1 := opsOk_x hop (usesY_X hy)
        have h2 := opsOk_y hop hy
        rw [if_pos hy, ih _ h1.2, ih _ h2.2]
        rfl
      · have y0 : (o.getD j nd0).y = 0 := by have := hop.2; rw [if_neg hy] at this; exact this
        rw [if_neg hy]
        by_cases hx : usesX (o.getD j nd0).op = true
        · have h1 := opsOk_x hop hx
          rw [if_pos hx, ih _ h1.2, y0, Int.toNat_zero, h0]
          have := depT_nonneg (treeAt o (o.getD j nd0).x.toNat)
          rw [Int.max_eq_left this]
          rfl
        · have x0 : (o.getD j nd0).x = 0 := by have := hop.1; rw [if_neg hx] at this; exact this
          rw [if_neg hx, x0, y0, Int.toNat_zero, h0]
          show max 0 0 + mOf (o.getD j nd0).op = mOf (o.getD j nd0).op
          rw [Int.max_self, Int.zero_add]
/-- the depth of a canonical list -/
theorem depL_canT {t : Tr} (ht : trOk t) : (depL (canT t) []).getLastD 0 = depT t := by
  have hn : (canT t).length ≠ 0 := by simpa using canT_ne t
  have hl := dpL_len (canT t) (canT t).length (Nat.le_refl _)
  have e : dpL (canT t) (canT t).length = depL (canT t) [] := by unfold dpL; rw [List.take_length]
  have h := dep_tree (canT_ops ht) (canT t).length (Nat.le_refl _) ((canT t).length - 1) (by omega)
  rw [canT_tree ht] at h
  rw [← e, ← h, List.getLastD_eq_getLast?, List.getLast?_eq_getElem?, hl, List.getD_eq_getElem?_getD]
/-- what a subformula is -/
theorem subs_tree {f s : List Nd} (hs : s ∈ subsF f) : fErr f = 0 ∧ ∃ t r : Tr, trOk t ∧ compF f = canT t ∧ subT r t ∧ s = canT r ∧ fErr s = 0 ∧ compF s = s := by
  unfold subsF at hs
  obtain ⟨i, hi, rfl⟩ := List.mem_map.1 hs
  have hi := List.mem_range.1 hi
  have hz : fErr f = 0 := by
    by_cases h : fErr f = 0
    · exact h
    · unfold compF at hi; rw [if_neg h] at hi; simp at hi
  have h0 := compF_ok hz
  have hne : f.length ≠ 0 := by simpa using (fErr_ok hz).1
  have ht : trOk (treeAt f (f.length - 1)) := treeAt_ok (fErr_ops hz) _ _ (Nat.lt_succ_self _) (by omega)
  have hc := compF_tree hz
  have h200 := (fErr_ok h0).2.1
  have hsub : subT (treeAt (compF f) i) (treeAt f (f.length - 1)) := by
    have := hi
    rw [hc] at this ⊢
    exact canT_sub ht this
  have hr := subT_ok hsub ht
  have hlen : (canT (treeAt (compF f) i)).length ≤ 200 := by
    rcases canT_len ht hsub with e | e
    · rw [e, ← hc]; exact h200
    · rw [← hc] at e; omega
  have hok := canT_ok (fErr_ops h0) (fErr_fld h0) hi hlen
  rw [canon_take (fErr_ops h0) hi]
  refine ⟨hz, _, _, ht, hc, hsub, rfl, hok, ?_⟩
  have key : ∀ l : List Nd, fErr l = 0 → compF l = canonF l := fun l h => by unfold compF; rw [if_pos h]
  rw [key _ hok, canonF_canT hr]
theorem sub_depth {f s : List Nd} (hs : s ∈ subsF f) : depF s ≤ depF f := by
  obtain ⟨hz, t, r, ht, hc, hr, e, h1, h2⟩ := subs_tree hs
  unfold depF
  rw [if_pos hz, if_pos h1, h2, hc, e, depL_canT ht, depL_canT (subT_ok hr ht)]
  exact depT_sub hr
theorem cmpNs_self : ∀ l : List Nd, cmpNs l l = 0
  | [] => rfl
  | x :: l => by
    have h := cmpN_ord.anti x x
    have hx : cmpN x x = 0 := by omega
    show (if cmpN x x ≠ 0 then cmpN x x else cmpNs l l) = 0
    rw [hx, if_neg (by simp)]
    exact cmpNs_self l
theorem cmpF_self (f : List Nd) : cmpF f f = 0 := by have := cmpF_ord.anti f f; omega
theorem sub_cmp {f s : List Nd} (hs : s ∈ subsF f) : cmpF s f ≤ 0 := by
  obtain ⟨hz, t, r, ht, hc, hr, e, h1, h2⟩ := subs_tree hs
  unfold cmpF
  rw [h2, hc, e]
  rcases canT_len ht hr with e2 | e2
  · rw [e2, cmpNs_self]
    have : cmpI ((canT t).length : Int) ((canT t).length : Int) = 0 := by unfold cmpI; rw [if_neg (Int.lt_irrefl _), if_neg (Int.lt_irrefl _)]
    rw [this, if_neg (by simp)]
    exact Int.le_refl _
  · have : cmpI ((canT r).length : Int) ((canT t).length : Int) = -1 := by unfold cmpI; rw [if_pos (by omega)]
    rw [this, if_pos (by simp)]
    decide
theorem maskL_bit (g : Nd → Nat) (b : Nat) : ∀ (l : List Nd), (maskL g l).testBit b = true ↔ ∃ n ∈ l, (g n).testBit b = true := by
  have key : ∀ (l : List Nd) (a : Nat), (l.foldl (fun m n => m ||| g n) a).testBit b = true ↔ a.testBit b = true ∨ ∃ n ∈ l, (g n).testBit b = true := by
    intro l
    induction l with
    | nil => intro a; simp
    | cons n l ih =>
      intro a
      rw [List.foldl_cons, ih, Nat.testBit_or, Bool.or_eq_true]
      simp only [List.mem_cons, exists_eq_or_imp, or_assoc]
  intro l
  unfold maskL
  rw [key l 0]
  simp
theorem sub_frags {f s : List Nd} (hs : s ∈ subsF f) {b : Nat} (h : (maskL fragD (compF s)).testBit b = true) : (maskL fragD (compF f)).testBit b = true := by
  obtain ⟨hz, t, r, ht, hc, hr, e, h1, h2⟩ := subs_tree hs
  rw [h2, e] at h
  rw [hc]
  obtain ⟨n, hn, hb⟩ := (maskL_bit _ _ _).1 h
  obtain ⟨m, hm, ho⟩ := canT_op ht hr hn
  refine (maskL_bit _ _ _).2 ⟨m, hm, ?_⟩
  unfold fragD at hb ⊢
  rw [ho]; exact hb
/-- what lies in a mask and not outside another -/
theorem andNot_sub (a b : Nat) (h : ∀ i, a.testBit i = true → b.testBit i = true) : bits .andNot .i64 (a : Int) (b : Int) = 0 := by
  show IntKind.i64.wrap ((BitVec.ofInt 64 (a : Int) &&& ~~~BitVec.ofInt 64 (b : Int)).toNat : Int) = 0
  have e : BitVec.ofInt 64 (a : Int) &&& ~~~BitVec.ofInt 64 (b : Int) = 0#64 := by
    rw [BitVec.ofInt_natCast, BitVec.ofInt_natCast]
    apply BitVec.eq_of_getLsbD_eq
    intro i hi
    rw [BitVec.getLsbD_and, BitVec.getLsbD_not, BitVec.getLsbD_ofNat, BitVec.getLsbD_ofNat, BitVec.getLsbD_zero, decide_eq_true hi]
    have := h i
    cases ha : a.testBit i with
    | false => rfl
    | true => rw [this ha]; rfl
  rw [e]; rfl
end Go.Proofs.Ytcbmncafmofcpaa
