/- Layer 6: texts joined: Qf Qg Qh Qi Qj Qk Ql. -/
import Derived.Test.YtkkkomkljpolbaaDoorNJj
import Derived.Test.YtkkkomkljpolbaaDoorNQp
/- Layer 8 as plain mathematics: the fields of rewritten formulas, and the results. -/
namespace Go.Proofs.Ws
open Go
theorem trAll_sub {P : Nd → Prop} {s : Tr} : ∀ {t : Tr}, subT s t → trAll P t → trAll P s
  | .leaf n, h, k => by have h : s = .leaf n := h; rw [h]; exact k
  | .un n a, h, k => by
    rcases h with h | h
    · rw [h]; exact k
    · exact trAll_sub h k.2
  | .bin n a b, h, k => by
    rcases h with h | h | h
    · rw [h]; exact k
    · exact trAll_sub h k.2.1
    · exact trAll_sub h k.2.2
def rootN : Tr → Nd
  | .leaf n => n
  | .un n _ => n
  | .bin n _ _ => n
theorem trAll_root {P : Nd → Prop} {t : Tr} (h : trAll P t) : P (rootN t) := by
  cases t
  · exact h
  · exact h.1
  · exact h.1
theorem rootN_at {o : List Nd} (ho : opsL o) {k : Nat} (hk : k < o.length) : rootN (treeAt o k) = bare (o.getD k nd0) := by
  rw [treeAt_eq ho hk]
  split
  · rfl
  · split <;> rfl
/-- the formula of a tree, or nothing where it is too long; the error -/
def resL (t : Tr) : List Nd := if 200 < (canT t).length then [] else canT t
def resE (t : Tr) : Int := if 200 < (canT t).length then 8 else 0
/-- what a rewriting leaves of the fields -/
def AllOk (t : Tr) : Prop := trOk t ∧ trAll fldOk t
theorem fld_op {op : Int} (h : known op = true) (h1 : shN op = 0) (h2 : shE op = 0) (h3 : shG op = 0) : fldOk (opN op) :=
  ⟨h, ⟨.inr (.inr (.inr rfl)), .inr rfl, .inr rfl⟩, by
    unfold rangeOk
    show ((shN op == 0 || _) && (shE op == 0 || _) && (shG op == 0 || _)) = true
    rw [h1, h2, h3]; rfl⟩
theorem all_not {a : Tr} (h : AllOk a) : AllOk (notT a) := ⟨⟨by decide, by decide, rfl, h.1⟩, fld_op (by decide) (by decide) (by decide) (by decide), h.2⟩
/-- a rule on trees that keeps the fields in order -/
def KeepR (R : Nd → Tr → Tr → Tr) : Prop := ∀ n a b, bare n = n → fldOk n → (usesX n.op = true → AllOk a) → (usesY n.op = true → AllOk b) → AllOk (R n a b)
theorem mapT_all {R : Nd → Tr → Tr → Tr} (hR : KeepR R) : ∀ (t : Tr), AllOk t → AllOk (mapT R t)
  | .leaf n, ⟨⟨h1, h2, h3⟩, h4⟩ => hR n noT noT h3 h4 (fun k => by rw [h1] at k; cases k) (fun k => by rw [h2] at k; cases k)
  | .un n a, ⟨⟨_, h2, h3, h5⟩, h4, h6⟩ => hR n _ noT h3 h4 (fun _ => mapT_all hR a ⟨h5, h6⟩) (fun k => by rw [h2] at k; cases k)
  | .bin n a b, ⟨⟨_, _, h3, h5, h7⟩, h4, h6, h8⟩ => hR n _ _ h3 h4 (fun _ => mapT_all hR a ⟨h5, h6⟩) (fun _ => mapT_all hR b ⟨h7, h8⟩)
theorem tOf_all {f : List Nd} (h : fErr f = 0) : AllOk (tOf f) := by
  have hpos := List.length_pos_iff.2 (fErr_ok h).1
  exact ⟨treeAt_ok (fErr_ops h) _ _ (Nat.lt_succ_self _) (by omega), treeAt_all (fErr_ops h) (fun n hn => fErr_fld h n hn) _ _ (Nat.lt_succ_self _) (by omega)⟩
theorem tOf_comp {f : List Nd} (h : fErr f = 0) : tOf (compF f) = tOf f := by
  unfold tOf
  rw [compF_tree h]
  exact canT_tree (tOf_all h).1
end Go.Proofs.Ws
/- Layer 8 as plain mathematics: simplification as the reference does it. -/
namespace Go.Proofs.Ws
open Go
end Go.Proofs.Ws
/- Layer 8 as plain mathematics: simplifying twice; the form of a normal form and of a formula with few operators (RewriteForms). -/
namespace Go.Proofs.Ws
open Go
end Go.Proofs.Ws
/- Layer 8 as plain mathematics: two substitutions one after the other (RewriteTwice); the closure of a formula (RewriteClosed). -/
namespace Go.Proofs.Ws
open Go
theorem subR_mk {ts : List Tr} {n : Nd} {a b : Tr} (h : n.op ≠ 3) : subR ts n a b = mkT n a b := if_neg (fun k => h k.1)
theorem subR_fact {ts : List Tr} {n : Nd} {a b : Tr} (h : n.op = 3) (hi : n.i.toNat < ts.length) : subR ts n a b = ts.getD n.i.toNat noT := if_pos ⟨h, hi⟩
theorem mapT_mk_un {n : Nd} {a : Tr} (h1 : usesX n.op = true) (h2 : usesY n.op = false) : mkT n a noT = .un n a := by
  unfold mkT; rw [if_neg (by rw [h2]; decide), if_pos h1]
theorem mapT_mk_bin {n : Nd} {a b : Tr} (h2 : usesY n.op = true) : mkT n a b = .bin n a b := by
  unfold mkT; rw [if_pos h2]
theorem not_fact {n : Nd} (h : usesX n.op = true) : n.op ≠ 3 := by intro e; rw [e] at h; cases h
theorem fact_node {n : Nd} (hn : fldOk n) (hb : bare n = n) (e : n.op = 3) : n = ⟨3, n.i, 0, 0, 0, 0⟩ ∧ 0 ≤ n.i ∧ n.i < 8 := by
  obtain ⟨k1, ⟨k2, k3, k4⟩, k5⟩ := hn
  obtain ⟨b1, b2⟩ := bare_x hb
  rw [e] at k3 k4
  have e2 : n.e = 0 := k3.resolve_left (by decide)
  have e3 : n.g = 0 := k4.resolve_left (by decide)
  unfold rangeOk at k5
  rw [e] at k5
  have h8 : shN 3 = 8 := by decide
  rw [h8] at k5
  simp at k5
  refine ⟨?_, k5.1.1.1, k5.1.1.2⟩
  obtain ⟨o1, o2, o3, o4, o5, o6⟩ := n
  simp only at e e2 e3 b1 b2
  rw [e, e2, e3, b1, b2]
def factT (i : Nat) : Tr := .leaf ⟨3, (i : Int), 0, 0, 0, 0⟩
/-- substituting each fact by itself changes nothing -/
theorem sub_self {ts : List Tr} (hts : ∀ i, i < ts.length → ts.getD i noT = factT i) : ∀ (t : Tr), AllOk t → mapT (subR ts) t = t
  | .leaf n, ⟨⟨h1, h2, h3⟩, h4⟩ => by
    show subR ts n noT noT = _
    by_cases h : n.op = 3 ∧ n.i.toNat < ts.length
    · obtain ⟨e, e0, _⟩ := fact_node h4 h3 h.1
      rw [subR_fact h.1 h.2, hts _ h.2]
      unfold factT
      rw [Int.toNat_of_nonneg e0, ← e]
    · unfold subR
      rw [if_neg h]
      unfold mkT
      rw [if_neg (by rw [h2]; decide), if_neg (by rw [h1]; decide)]
  | .un n a, ⟨⟨h1, h2, _, h5⟩, h4, h6⟩ => by
    show subR ts n (mapT (subR ts) a) noT = _
    rw [sub_self hts a ⟨h5, h6⟩, subR_mk (not_fact h1), mapT_mk_un h1 h2]
  | .bin n a b, ⟨⟨h1, h2, _, h5, h7⟩, h4, h6, h8⟩ => by
    show subR ts n (mapT (subR ts) a) (mapT (subR ts) b) = _
    rw [sub_self hts a ⟨h5, h6⟩, sub_self hts b ⟨h7, h8⟩, subR_mk (not_fact h1), mapT_mk_bin h2]
end Go.Proofs.Ws
/- Layer 8 as plain mathematics: in a small model, rewritten formulas have the truth of the formula (RewriteMeans). -/
namespace Go.Proofs.Ws
open Go
/-- a set of worlds: one of 16 -/
abbrev B4 := Fin 16
/-- what the other operators mean: of a model -/
structure Sem where
  fact : Int → B4
  know : Int → B4 → B4
  every : Int → B4 → B4
  dist : Int → B4 → B4
  com : Int → B4 → B4 → B4
  know_t : ∀ i, know i 15 = 15
  every_t : ∀ g, every g 15 = 15
  dist_t : ∀ g, dist g 15 = 15
  com_f : ∀ g y, com g 0 y = 15
  com_t : ∀ g x, com g x 15 = 15
end Go.Proofs.Ws
/- Layer 8 as plain mathematics: what is rewritten stays static. -/
namespace Go.Proofs.Ws
open Go
end Go.Proofs.Ws
/- Layer 8 as plain mathematics: results that are too long stay empty above (the reference's Subst, Simplify). -/
namespace Go.Proofs.Ws
open Go
theorem resL_short {t : Tr} (h : (canT t).length ≤ 200) : resL t = canT t := if_neg (by omega)
theorem canT_good {t : Tr} (h : AllOk t) (hl : (canT t).length ≤ 200) : fErr (canT t) = 0 :=
  fErr_zero (canT_ne t) hl (fun j hj => ⟨canT_ops h.1 j hj, by
    have h1 := trAll_root (trAll_sub (canT_sub h.1 hj) h.2)
    rw [rootN_at (canT_ops h.1) hj] at h1
    exact h1⟩)
/-- the error of a result, where it is taken for a formula -/
theorem resL_err {t : Tr} (h : AllOk t) : fErr (resL t) = if 200 < (canT t).length then 3 else 0 := by
  unfold resL
  by_cases hl : 200 < (canT t).length
  · rw [if_pos hl, if_pos hl]; rfl
  · rw [if_neg hl, if_neg hl]; exact canT_good h (by omega)
end Go.Proofs.Ws
