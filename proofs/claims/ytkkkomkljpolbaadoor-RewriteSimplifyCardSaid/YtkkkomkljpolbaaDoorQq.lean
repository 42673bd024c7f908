/- Layer 6: texts joined: Qf Qg Qh Qi Qj Qk Ql. -/
import Derived.Test.YtkkkomkljpolbaaDoorJj
import Derived.Test.YtkkkomkljpolbaaDoorQp
/- Layer 8 as plain mathematics: the fields of rewritten formulas, and the results. -/
namespace Go.Proofs.Ws
open Go
theorem trAll_sub {P : Nd → Prop} {s : Tr} : ∀ {t : Tr}, subT s t → trAll P t → trAll P s
  | .leaf n, h, k => by have h : s = .leaf n := h; rw [h]; exact k
  | .un n a, h, k => by
    rcases h with h | h
    · rw [h]; exact k
    · exact trAll_sub h k.2
  | .bin n a b, h, k => by
    rcases h with h | h | h
    · rw [h]; exact k
    · exact trAll_sub h k.2.1
    · exact trAll_sub h k.2.2
def rootN : Tr → Nd
  | .leaf n => n
  | .un n _ => n
  | .bin n _ _ => n
theorem trAll_root {P : Nd → Prop} {t : Tr} (h : trAll P t) : P (rootN t) := by
  cases t
  · exact h
  · exact h.1
  · exact h.1
theorem rootN_at {o : List Nd} (ho : opsL o) {k : Nat} (hk : k < o.length) : rootN (treeAt o k) = bare (o.getD k nd0) := by
  rw [treeAt_eq ho hk]
  split
  · rfl
  · split <;> rfl
/-- the fields of the nodes that are taken -/
theorem takeL_fld {o : List Nd} (h : Bd o) {last : Nat} (hl : last < o.length) (hF : trAll fldOk (treeAt o last)) : ∀ n ∈ takeL o last, fldOk n := by
  intro n hn
  have hb := takeL_bd h hl
  have hall := Tk.all h (marks_ok h.ops hl) (last + 1) (last + 1) (Nat.le_refl _)
  obtain ⟨k, hk, hk2⟩ := List.getElem_of_mem hn
  obtain ⟨j, hj1, hj2, hj3⟩ := hall.back k hk
  obtain ⟨hjo, hsub⟩ := (marks_ok h.ops hl).sub j hj2
  have r1 := hall.at_ j hj1 hj2
  rw [hj3] at r1
  have e : treeAt (takeL o last) k = treeAt o j := rep_tree hb.ops _ k (treeAt_ok h.ops (j + 1) j (by omega) hjo) r1
  have h1 := trAll_root (trAll_sub hsub hF)
  rw [← e, rootN_at hb.ops hk, show (takeL o last).getD k nd0 = n from by simp [hk, hk2]] at h1
  exact h1
/-- the formula of a tree, or nothing where it is too long; the error -/
def resL (t : Tr) : List Nd := if 200 < (canT t).length then [] else canT t
def resE (t : Tr) : Int := if 200 < (canT t).length then 8 else 0
theorem take_err {o : List Nd} (h : Bd o) {last : Nat} (hl : last < o.length) (hF : trAll fldOk (treeAt o last)) : fErr (takeL o last) = resE (treeAt o last) := by
  have hne := (takeL_last h hl).1
  have hlen := takeL_len h hl
  unfold resE
  by_cases hh : 200 < (canT (treeAt o last)).length
  · rw [if_pos hh]
    unfold fErr
    rw [if_neg (by have := List.length_pos_iff.2 hne; omega), if_pos (by omega)]
  · rw [if_neg hh]
    exact fErr_zero hne (by omega) (fun j hj => ⟨(takeL_bd h hl).ops j hj, takeL_fld h hl hF _ (getD_mem hj)⟩)
theorem take_comp {o : List Nd} (h : Bd o) {last : Nat} (hl : last < o.length) (hF : trAll fldOk (treeAt o last)) : compF (takeL o last) = resL (treeAt o last) := by
  unfold compF
  rw [take_err h hl hF, takeL_canon h hl]
  unfold resE resL
  by_cases hh : 200 < (canT (treeAt o last)).length
  · rw [if_pos hh, if_pos hh, if_neg (by decide)]
  · rw [if_neg hh, if_neg hh, if_pos rfl]
/-- what a rewriting leaves of the fields -/
def AllOk (t : Tr) : Prop := trOk t ∧ trAll fldOk t
theorem fld_op {op : Int} (h : known op = true) (h1 : shN op = 0) (h2 : shE op = 0) (h3 : shG op = 0) : fldOk (opN op) :=
  ⟨h, ⟨.inr (.inr (.inr rfl)), .inr rfl, .inr rfl⟩, by
    unfold rangeOk
    show ((shN op == 0 || _) && (shE op == 0 || _) && (shG op == 0 || _)) = true
    rw [h1, h2, h3]; rfl⟩
theorem fld_re {n : Nd} {op : Int} (h : fldOk n) (hk : known op = true) (h3 : n.op = 3 → op = 3) (ha : hasAgent op = hasAgent n.op) (h17 : n.op = 17 → op = 17) (hg : hasGroup op = hasGroup n.op) (s1 : shN op = shN n.op) (s2 : shE op = shE n.op) (s3 : shG op = shG n.op) : fldOk { n with op := op } := by
  obtain ⟨_, ⟨k1, k2, k3⟩, k4⟩ := h
  refine ⟨hk, ⟨?_, ?_, ?_⟩, ?_⟩
  · rcases k1 with k | k | k | k
    · exact .inl (h3 k)
    · exact .inr (.inl (ha.trans k))
    · exact .inr (.inr (.inl (h17 k)))
    · exact .inr (.inr (.inr k))
  · rcases k2 with k | k
    · exact .inl (h17 k)
    · exact .inr k
  · rcases k3 with k | k
    · exact .inl (hg.trans k)
    · exact .inr k
  · unfold rangeOk at k4 ⊢
    show ((shN op == 0 || (decide (0 ≤ n.i) && decide (n.i < shN op))) && (shE op == 0 || (decide (0 ≤ n.e) && decide (n.e < shE op))) && (shG op == 0 || (decide (1 ≤ n.g) && decide (n.g ≤ shG op)))) = true
    rw [s1, s2, s3]; exact k4
theorem all_const {op : Int} (h : op = 1 ∨ op = 2) : AllOk (cT op) := by
  rcases h with rfl | rfl
  · exact ⟨⟨by decide, by decide, rfl⟩, fld_op (by decide) (by decide) (by decide) (by decide)⟩
  · exact ⟨⟨by decide, by decide, rfl⟩, fld_op (by decide) (by decide) (by decide) (by decide)⟩
theorem all_not {a : Tr} (h : AllOk a) : AllOk (notT a) := ⟨⟨by decide, by decide, rfl, h.1⟩, fld_op (by decide) (by decide) (by decide) (by decide), h.2⟩
theorem all_join {op : Int} (ho : op = 5 ∨ op = 6) {a b : Tr} (h : AllOk a) (k : AllOk b) : AllOk (jT op a b) := by
  rcases ho with rfl | rfl
  · exact ⟨⟨by decide, by decide, rfl, h.1, k.1⟩, fld_op (by decide) (by decide) (by decide) (by decide), h.2, k.2⟩
  · exact ⟨⟨by decide, by decide, rfl, h.1, k.1⟩, fld_op (by decide) (by decide) (by decide) (by decide), h.2, k.2⟩
theorem all_neg {a : Tr} (h : AllOk a) : AllOk (negT a) := by
  cases a with
  | leaf n => exact all_not h
  | bin n a b => exact all_not h
  | un n a =>
    show AllOk (if n.op = 4 then a else notT (.un n a))
    split
    · exact ⟨h.1.2.2.2, h.2.2⟩
    · exact all_not h
theorem all_mk {n : Nd} (hb : bare n = n) (hn : fldOk n) {a b : Tr} (hx : usesX n.op = true → AllOk a) (hy : usesY n.op = true → AllOk b) : AllOk (mkT n a b) := by
  unfold mkT
  split
  · rename_i h
    have h1 := hx (usesY_X h)
    have h2 := hy h
    exact ⟨⟨usesY_X h, h, hb, h1.1, h2.1⟩, hn, h1.2, h2.2⟩
  · rename_i h
    split
    · rename_i h2
      have h1 := hx h2
      exact ⟨⟨h2, Bool.eq_false_iff.2 h, hb, h1.1⟩, hn, h1.2⟩
    · rename_i h2
      exact ⟨⟨Bool.eq_false_iff.2 h2, Bool.eq_false_iff.2 h, hb⟩, hn⟩
/-- a rule on trees that keeps the fields in order -/
def KeepR (R : Nd → Tr → Tr → Tr) : Prop := ∀ n a b, bare n = n → fldOk n → (usesX n.op = true → AllOk a) → (usesY n.op = true → AllOk b) → AllOk (R n a b)
theorem mapT_all {R : Nd → Tr → Tr → Tr} (hR : KeepR R) : ∀ (t : Tr), AllOk t → AllOk (mapT R t)
  | .leaf n, ⟨⟨h1, h2, h3⟩, h4⟩ => hR n noT noT h3 h4 (fun k => by rw [h1] at k; cases k) (fun k => by rw [h2] at k; cases k)
  | .un n a, ⟨⟨_, h2, h3, h5⟩, h4, h6⟩ => hR n _ noT h3 h4 (fun _ => mapT_all hR a ⟨h5, h6⟩) (fun k => by rw [h2] at k; cases k)
  | .bin n a b, ⟨⟨_, _, h3, h5, h7⟩, h4, h6, h8⟩ => hR n _ _ h3 h4 (fun _ => mapT_all hR a ⟨h5, h6⟩) (fun _ => mapT_all hR b ⟨h7, h8⟩)
theorem ifAll {c : Prop} [Decidable c] {s t : Tr} (h : c → AllOk s) (k : ¬ c → AllOk t) : AllOk (if c then s else t) := by
  split
  · exact h ‹_›
  · exact k ‹_›
theorem join_keep {n : Nd} {ne de : Int} (hd : de = 1 ∨ de = 2) {a b : Tr} (ha : AllOk a) (hb : AllOk b) (hm : AllOk (mkT n a b)) : AllOk (sJoinT n ne de a b) :=
  ifAll (fun _ => all_const hd) fun _ => ifAll (fun _ => hb) fun _ => ifAll (fun _ => ha) fun _ => ifAll (fun _ => all_const hd) fun _ => hm
theorem sim_keep : KeepR simT := by
  intro n a b hb hn hx hy
  have hm := all_mk hb hn hx hy
  unfold simT
  refine ifAll (fun e => ?_) fun _ => ifAll (fun e => ?_) fun _ => ifAll (fun e => ?_) fun _ => ifAll (fun e => ?_) fun _ => ifAll (fun e => ?_) fun _ => ifAll (fun e => ?_) fun _ => ifAll (fun e => ?_) fun _ => ifAll (fun e => ?_) fun _ => ifAll (fun _ => ?_) fun _ => hm
  · have ha := hx (by rw [e]; decide)
    exact ifAll (fun _ => all_const (.inr rfl)) fun _ => ifAll (fun _ => all_const (.inl rfl)) fun _ => all_neg ha
  · exact join_keep (.inr rfl) (hx (by rw [e]; decide)) (hy (by rw [e]; decide)) hm
  · exact join_keep (.inl rfl) (hx (by rw [e]; decide)) (hy (by rw [e]; decide)) hm
  · have ha := hx (by rw [e]; decide)
    have hb := hy (by rw [e]; decide)
    exact ifAll (fun _ => all_const (.inl rfl)) fun _ => ifAll (fun _ => hb) fun _ => ifAll (fun _ => all_neg ha) fun _ => hm
  · have ha := hx (by rw [e]; decide)
    have hb := hy (by rw [e]; decide)
    exact ifAll (fun _ => all_const (.inl rfl)) fun _ => ifAll (fun _ => all_const (.inr rfl)) fun _ => ifAll (fun _ => hb) fun _ => ifAll (fun _ => ha) fun _ => ifAll (fun _ => all_neg hb) fun _ => ifAll (fun _ => all_neg ha) fun _ => hm
  · have ha := hx (by rw [e]; decide)
    exact ifAll (fun _ => ha) fun _ => hm
  · have ha := hx (by
      unfold boxOp at e
      unfold usesX
      simp only [Bool.or_eq_true, Bool.and_eq_true, decide_eq_true_eq] at e ⊢
      omega)
    exact ifAll (fun _ => ha) fun _ => hm
  · have hb := hy (by rw [e]; decide)
    exact ifAll (fun _ => hb) fun _ => ifAll (fun _ => all_const (.inl rfl)) fun _ => hm
  · exact ifAll (fun _ => all_const (.inl rfl)) fun _ => hm
theorem sub_keep {ts : List Tr} (hT : ∀ t ∈ ts, AllOk t) : KeepR (subR ts) := by
  intro n a b hb hn hx hy
  refine ifAll (fun e => ?_) fun _ => all_mk hb hn hx hy
  rw [List.getD_eq_getElem?_getD, List.getElem?_eq_getElem e.2]
  exact hT _ (List.getElem_mem _)
theorem fld_dual {n : Nd} (h : fldOk n) (hd : dualOf n.op ≠ 0) : fldOk { n with op := dualOf n.op } := by
  have key : n.op = 1 ∨ n.op = 2 ∨ n.op = 5 ∨ n.op = 6 ∨ n.op = 9 ∨ n.op = 10 := by
    unfold dualOf at hd
    by_cases a1 : n.op = 1
    · exact .inl a1
    by_cases a2 : n.op = 2
    · exact .inr (.inl a2)
    by_cases a3 : n.op = 5
    · exact .inr (.inr (.inl a3))
    by_cases a4 : n.op = 6
    · exact .inr (.inr (.inr (.inl a4)))
    by_cases a5 : n.op = 9
    · exact .inr (.inr (.inr (.inr (.inl a5))))
    by_cases a6 : n.op = 10
    · exact .inr (.inr (.inr (.inr (.inr a6))))
    rw [if_neg a1, if_neg a2, if_neg a3, if_neg a4, if_neg a5, if_neg a6] at hd
    exact absurd rfl hd
  rcases key with e | e | e | e | e | e
  all_goals exact fld_re h (by rw [e]; decide) (fun k => by omega) (by rw [e]; decide) (fun k => by omega) (by rw [e]; decide) (by rw [e]; decide) (by rw [e]; decide) (by rw [e]; decide)
theorem nf_keep {n : Nd} (hb : bare n = n) (hn : fldOk n) {a b : Tr × Tr} (hx : usesX n.op = true → AllOk a.1 ∧ AllOk a.2) (hy : usesY n.op = true → AllOk b.1 ∧ AllOk b.2) : AllOk (nfPos n a b) ∧ AllOk (nfNeg n a b) := by
  have h1 : AllOk (nfPos n a b) := by
    unfold nfPos
    refine ifAll (fun e => ?_) fun _ => ifAll (fun e => ?_) fun _ => ifAll (fun e => ?_) fun _ => all_mk hb hn (fun k => (hx k).1) (fun k => (hy k).1)
    · exact (hx (by rw [e]; decide)).2
    · exact all_join (.inr rfl) (hx (by rw [e]; decide)).2 (hy (by rw [e]; decide)).1
    · have h1 := hx (by rw [e]; decide)
      have h2 := hy (by rw [e]; decide)
      exact all_join (.inl rfl) (all_join (.inr rfl) h1.2 h2.1) (all_join (.inr rfl) h1.1 h2.2)
  refine ⟨h1, ?_⟩
  unfold nfNeg
  refine ifAll (fun e => ?_) fun _ => ifAll (fun e => ?_) fun _ => ifAll (fun e => ?_) fun _ => ifAll (fun e => ?_) fun _ => all_not h1
  · exact (hx (by rw [e]; decide)).1
  · exact all_join (.inl rfl) (hx (by rw [e]; decide)).1 (hy (by rw [e]; decide)).2
  · have h1 := hx (by rw [e]; decide)
    have h2 := hy (by rw [e]; decide)
    exact all_join (.inr rfl) (all_join (.inl rfl) h1.1 h2.2) (all_join (.inl rfl) h1.2 h2.1)
  · have hu := dual_uses e
    have hb2 : bare { n with op := dualOf n.op } = { n with op := dualOf n.op } := by
      obtain ⟨h3, h4⟩ := bare_x hb
      unfold bare
      simp only [h3, h4]
    exact all_mk hb2 (fld_dual hn e) (fun k => (hx (by rw [← hu.1]; exact k)).2) (fun k => (hy (by rw [← hu.2]; exact k)).2)
theorem nfT_all : ∀ (t : Tr), AllOk t → AllOk (nfT t).1 ∧ AllOk (nfT t).2
  | .leaf n, ⟨⟨h1, h2, h3⟩, h4⟩ => nf_keep h3 h4 (fun k => by rw [h1] at k; cases k) (fun k => by rw [h2] at k; cases k)
  | .un n a, ⟨⟨_, h2, h3, h5⟩, h4, h6⟩ => nf_keep h3 h4 (fun _ => nfT_all a ⟨h5, h6⟩) (fun k => by rw [h2] at k; cases k)
  | .bin n a b, ⟨⟨_, _, h3, h5, h7⟩, h4, h6, h8⟩ => nf_keep h3 h4 (fun _ => nfT_all a ⟨h5, h6⟩) (fun _ => nfT_all b ⟨h7, h8⟩)
theorem tOf_all {f : List Nd} (h : fErr f = 0) : AllOk (tOf f) := by
  have hpos := List.length_pos_iff.2 (fErr_ok h).1
  exact ⟨treeAt_ok (fErr_ops h) _ _ (Nat.lt_succ_self _) (by omega), treeAt_all (fErr_ops h) (fun n hn => fErr_fld h n hn) _ _ (Nat.lt_succ_self _) (by omega)⟩
theorem tOf_comp {f : List Nd} (h : fErr f = 0) : tOf (compF f) = tOf f := by
  unfold tOf
  rw [compF_tree h]
  exact canT_tree (tOf_all h).1
end Go.Proofs.Ws
/- Layer 8 as plain mathematics: simplification as the reference does it. -/
namespace Go.Proofs.Ws
open Go
theorem opp_ne {a b : Tr} (h : oppT a b) : a ≠ b := by
  intro e
  subst e
  have : szT a = szT (notT a) := congrArg szT (h.elim id id)
  have h2 : szT (notT a) = szT a + 1 := rfl
  omega
theorem leaf_const {op : Int} {a : Tr} (h : AllOk a) (ht : topT a = op) (hx : usesX op = false) (h3 : op ≠ 3) (h1 : hasAgent op = false) (h2 : hasGroup op = false) : a = cT op := by
  cases a with
  | un n a => have h4 := h.1.1; have : n.op = op := ht; rw [this, hx] at h4; cases h4
  | bin n a b => have h4 := h.1.1; have : n.op = op := ht; rw [this, hx] at h4; cases h4
  | leaf n =>
    have ht : n.op = op := ht
    obtain ⟨_, _, hb⟩ := h.1
    obtain ⟨k1, ⟨k2, k3, k4⟩, _⟩ := (show fldOk n from h.2)
    obtain ⟨b1, b2⟩ := bare_x hb
    have h17 : op ≠ 17 := by intro e; rw [e] at hx; cases hx
    rw [ht] at k2 k3 k4
    have e1 : n.i = 0 := by
      rcases k2 with k | k | k | k
      · exact absurd k h3
      · rw [h1] at k; cases k
      · exact absurd k h17
      · exact k
    have e2 : n.e = 0 := k3.resolve_left h17
    have e3 : n.g = 0 := k4.resolve_left (by rw [h2]; decide)
    unfold cT opN
    obtain ⟨o1, o2, o3, o4, o5, o6⟩ := n
    simp only at ht e1 e2 e3 b1 b2
    rw [ht, e1, e2, e3, b1, b2]
theorem top_true {a : Tr} (h : AllOk a) (ht : topT a = 1) : a = cT 1 := leaf_const h ht (by decide) (by decide) (by decide) (by decide)
def sBoolR (n : Nd) (a b : Tr) : Tr :=
  if n.op = 5 ∧ (topT a = 2 ∨ topT b = 2 ∨ oppT a b ∧ topT a ≠ 1 ∧ topT b ≠ 1) then cT 2
  else if n.op = 5 ∧ topT a = 1 then b
  else if n.op = 5 ∧ (topT b = 1 ∨ a = b) then a
  else if n.op = 6 ∧ (topT a = 1 ∨ topT b = 1 ∨ oppT a b ∧ topT a ≠ 2 ∧ topT b ≠ 2) then cT 1
  else if n.op = 6 ∧ topT a = 2 then b
  else if n.op = 6 ∧ (topT b = 2 ∨ a = b) then a
  else if n.op = 7 ∧ (topT a = 2 ∨ topT b = 1 ∨ a = b) then cT 1
  else if n.op = 7 ∧ topT a = 1 then b
  else if n.op = 7 ∧ topT b = 2 then negT a
  else if n.op ≠ 8 then mkT n a b
  else if a = b then cT 1 else if oppT a b then cT 2 else if topT a = 1 then b else if topT b = 1 then a else if topT a = 2 then negT b else if topT b = 2 then negT a else mkT n a b
def sModR (n : Nd) (a b : Tr) : Tr :=
  if n.op = 4 then (if topT a = 1 then cT 2 else if topT a = 2 then cT 1 else if topT a = 4 then negT a else mkT n a b)
  else if boxOp n.op = true then (if topT a = 1 then a else mkT n a b)
  else if n.op = 10 then (if topT a = 2 then a else mkT n a b)
  else if n.op = 13 ∨ n.op = 14 ∨ n.op = 16 then (if topT a = 2 ∨ topT b = 1 then cT 1 else if n.op = 16 ∧ topT a = 1 then b else mkT n a b)
  else mkT n a b
def simR (n : Nd) (a b : Tr) : Tr := if 5 ≤ n.op ∧ n.op ≤ 8 then sBoolR n a b else sModR n a b
theorem not_node {n : Nd} (hn : fldOk n) (hb : bare n = n) (e : n.op = 4) : n = opN 4 := by
  obtain ⟨k1, ⟨k2, k3, k4⟩, _⟩ := hn
  obtain ⟨b1, b2⟩ := bare_x hb
  rw [e] at k2 k3 k4
  have e1 : n.i = 0 := by
    rcases k2 with k | k | k | k
    · cases k
    · cases k
    · cases k
    · exact k
  have e2 : n.e = 0 := k3.resolve_left (by decide)
  have e3 : n.g = 0 := k4.resolve_left (by decide)
  unfold opN
  obtain ⟨o1, o2, o3, o4, o5, o6⟩ := n
  simp only at e e1 e2 e3 b1 b2
  rw [e, e1, e2, e3, b1, b2]
theorem simR_eq {n : Nd} (hb : bare n = n) (hn : fldOk n) {a b : Tr} (hx : usesX n.op = true → AllOk a) (hy : usesY n.op = true → AllOk b) : simR n a b = simT n a b := by
  unfold simR simT
  by_cases h4 : n.op = 4
  · rw [if_neg (by omega), if_pos h4]
    unfold sModR sNotT
    rw [if_pos h4]
    have ha := hx (by rw [h4]; decide)
    by_cases h1 : topT a = 1
    · rw [if_pos h1, if_pos h1]
    rw [if_neg h1, if_neg h1]
    by_cases h2 : topT a = 2
    · rw [if_pos h2, if_pos h2]
    rw [if_neg h2, if_neg h2]
    by_cases h3 : topT a = 4
    · rw [if_pos h3]
    rw [if_neg h3, negT_not ha.1 h3, not_node hn hb h4]
    rfl
  rw [if_neg h4]
  by_cases h5 : n.op = 5
  · rw [if_pos (by omega), if_pos h5]
    have ho : oppT a b → a ≠ b := opp_ne
    by_cases c1 : topT a = 2
    · simp [sBoolR, sJoinT, h5, c1]
    by_cases c2 : topT b = 2
    · simp [sBoolR, sJoinT, h5, c2]
    by_cases c3 : topT a = 1
    · simp [sBoolR, sJoinT, h5, c2, c3]
    by_cases c4 : topT b = 1
    · simp [sBoolR, sJoinT, h5, c1, c3, c4]
    by_cases c5 : a = b
    · have c6 : ¬ oppT a b := fun k => ho k c5
      subst c5
      simp [sBoolR, sJoinT, h5, c1, c3, c6]
    by_cases c6 : oppT a b
    · simp [sBoolR, sJoinT, h5, c1, c2, c3, c4, c5, c6]
    · simp [sBoolR, sJoinT, h5, c1, c2, c3, c4, c5, c6]
  rw [if_neg h5]
  by_cases h6 : n.op = 6
  · rw [if_pos (by omega), if_pos h6]
    have ho : oppT a b → a ≠ b := opp_ne
    by_cases c1 : topT a = 1
    · simp [sBoolR, sJoinT, h6, c1]
    by_cases c2 : topT b = 1
    · simp [sBoolR, sJoinT, h6, c2]
    by_cases c3 : topT a = 2
    · simp [sBoolR, sJoinT, h6, c2, c3]
    by_cases c4 : topT b = 2
    · simp [sBoolR, sJoinT, h6, c1, c3, c4]
    by_cases c5 : a = b
    · have c6 : ¬ oppT a b := fun k => ho k c5
      subst c5
      simp [sBoolR, sJoinT, h6, c1, c3, c6]
    by_cases c6 : oppT a b
    · simp [sBoolR, sJoinT, h6, c1, c2, c3, c4, c5, c6]
    · simp [sBoolR, sJoinT, h6, c1, c2, c3, c4, c5, c6]
  rw [if_neg h6]
  by_cases h7 : n.op = 7
  · rw [if_pos (by omega), if_pos h7]
    unfold sBoolR sImpT
    rw [if_neg (fun k => h5 k.1), if_neg (fun k => h5 k.1), if_neg (fun k => h5 k.1), if_neg (fun k => h6 k.1), if_neg (fun k => h6 k.1), if_neg (fun k => h6 k.1)]
    by_cases c1 : topT a = 2 ∨ topT b = 1 ∨ a = b
    · rw [if_pos ⟨h7, c1⟩, if_pos c1]
    rw [if_neg (fun k => c1 k.2), if_neg c1]
    by_cases c2 : topT a = 1
    · rw [if_pos ⟨h7, c2⟩, if_pos c2]
    by_cases c3 : topT b = 2
    · simp [h7, c2, c3]
    · simp [h7, c2, c3]
  rw [if_neg h7]
  by_cases h8 : n.op = 8
  · rw [if_pos (by omega), if_pos h8]
    unfold sBoolR sIffT
    rw [if_neg (fun k => h5 k.1), if_neg (fun k => h5 k.1), if_neg (fun k => h5 k.1), if_neg (fun k => h6 k.1), if_neg (fun k => h6 k.1), if_neg (fun k => h6 k.1), if_neg (fun k => h7 k.1), if_neg (fun k => h7 k.1), if_neg (fun k => h7 k.1), if_neg (fun k => k h8)]
  rw [if_neg h8, if_neg (by omega)]
  unfold sModR
  rw [if_neg h4]
  by_cases h10 : n.op = 10
  · have : boxOp n.op ≠ true := by rw [h10]; decide
    rw [if_neg this, if_pos h10, if_pos h10]
  rw [if_neg (c := n.op = 10) h10, if_neg (c := n.op = 10) h10]
  by_cases hbx : boxOp n.op = true
  · rw [if_pos hbx, if_pos hbx]
  rw [if_neg hbx, if_neg hbx]
  by_cases h16 : n.op = 16
  · rw [if_pos (.inr (.inr h16)), if_pos h16]
    by_cases c1 : topT a = 1
    · rw [if_pos c1]
      by_cases c2 : topT b = 1
      · rw [if_pos (.inr c2)]
        exact (top_true (hy (by rw [h16]; decide)) c2).symm
      · rw [if_neg (fun k => k.elim (fun k => by omega) c2), if_pos ⟨h16, c1⟩]
    · rw [if_neg c1]
      by_cases c2 : topT a = 2 ∨ topT b = 1
      · rw [if_pos c2, if_pos c2]
      · rw [if_neg c2, if_neg c2, if_neg (fun k => c1 k.2)]
  rw [if_neg h16]
  by_cases h13 : n.op = 13 ∨ n.op = 14
  · rw [if_pos (h13.elim .inl (fun k => .inr (.inl k))), if_pos h13]
    by_cases c2 : topT a = 2 ∨ topT b = 1
    · rw [if_pos c2, if_pos c2]
    · rw [if_neg c2, if_neg c2, if_neg (fun k => h16 k.1)]
  rw [if_neg h13, if_neg (fun k => k.elim (fun k => h13 (.inl k)) (fun k => k.elim (fun k => h13 (.inr k)) h16))]
end Go.Proofs.Ws
/- Layer 8 as plain mathematics: simplifying twice; the form of a normal form and of a formula with few operators (RewriteForms). -/
namespace Go.Proofs.Ws
open Go
end Go.Proofs.Ws
/- Layer 8 as plain mathematics: two substitutions one after the other (RewriteTwice); the closure of a formula (RewriteClosed). -/
namespace Go.Proofs.Ws
open Go
theorem sub_all {t s : Tr} (h : AllOk t) (hs : subT s t) : AllOk s := ⟨subT_ok hs h.1, trAll_sub hs h.2⟩
/-- the negation is longer by a node at most -/
theorem neg_len {t : Tr} (h : AllOk t) : (canT (negT t)).length ≤ (canT t).length + 1 := by
  have g := Gr.neg (o := canT t) ⟨canT_nodup t, canT_ops h.1⟩ (finT_rep t []) h.1
  have := g.bd.len g.ok g.rep
  have := g.len
  omega
end Go.Proofs.Ws
/- Layer 8 as plain mathematics: in a small model, rewritten formulas have the truth of the formula (RewriteMeans). -/
namespace Go.Proofs.Ws
open Go
/-- a set of worlds: one of 16 -/
abbrev B4 := Fin 16
def aB (x y : B4) : B4 := x &&& y
/-- what the other operators mean: of a model -/
structure Sem where
  fact : Int → B4
  know : Int → B4 → B4
  every : Int → B4 → B4
  dist : Int → B4 → B4
  com : Int → B4 → B4 → B4
  know_t : ∀ i, know i 15 = 15
  every_t : ∀ g, every g 15 = 15
  dist_t : ∀ g, dist g 15 = 15
  com_f : ∀ g y, com g 0 y = 15
  com_t : ∀ g x, com g x 15 = 15
end Go.Proofs.Ws
/- Layer 8 as plain mathematics: what is rewritten stays static. -/
namespace Go.Proofs.Ws
open Go
end Go.Proofs.Ws
/- Layer 8 as plain mathematics: results that are too long stay empty above (the reference's Subst, Simplify). -/
namespace Go.Proofs.Ws
open Go
theorem resL_nil {t : Tr} : resL t = [] ↔ 200 < (canT t).length := by
  unfold resL
  split
  · rename_i h; exact ⟨fun _ => h, fun _ => rfl⟩
  · rename_i h; exact ⟨fun k => absurd k (canT_ne t), fun k => absurd k h⟩
theorem resL_short {t : Tr} (h : (canT t).length ≤ 200) : resL t = canT t := if_neg (by omega)
theorem len_part {s t : Tr} (ht : trOk t) (h : subT s t) : (canT s).length ≤ (canT t).length := by
  rcases canT_len ht h with e | e
  · rw [e]; exact Nat.le_refl _
  · omega
/-- what has a part that is too long is too long -/
theorem resL_part {s t : Tr} (ht : trOk t) (h : subT s t) (k : resL s = []) : resL t = [] := by
  rw [resL_nil] at k ⊢
  have := len_part ht h
  omega
theorem sub_un (n : Nd) (a : Tr) : subT a (.un n a) := .inr (subT_refl a)
theorem sub_bin1 (n : Nd) (a b : Tr) : subT a (.bin n a b) := .inr (.inl (subT_refl a))
theorem sub_bin2 (n : Nd) (a b : Tr) : subT b (.bin n a b) := .inr (.inr (subT_refl b))
theorem canT_good {t : Tr} (h : AllOk t) (hl : (canT t).length ≤ 200) : fErr (canT t) = 0 :=
  fErr_zero (canT_ne t) hl (fun j hj => ⟨canT_ops h.1 j hj, by
    have h1 := trAll_root (trAll_sub (canT_sub h.1 hj) h.2)
    rw [rootN_at (canT_ops h.1) hj] at h1
    exact h1⟩)
theorem tOf_canT {t : Tr} (h : trOk t) : tOf (canT t) = t := canT_tree h
/-- each node of a rewritten formula, while the whole is short: simplification never makes anything longer -/
theorem sim_part {f : List Nd} (hf : opsL f) {i : Nat} (hi : i < f.length) : (canT (mapT simT (treeAt f i))).length ≤ i + 1 := by
  have hq := opsL_take hf (i + 1)
  have hlen : (f.take (i + 1)).length = i + 1 := by rw [List.length_take]; omega
  have hne : f.take (i + 1) ≠ [] := by
    intro e
    rw [e] at hlen; simp at hlen
  have g := rwP_ok (sim_rule (fun _ => True)) (q := f.take (i + 1)) (o := []) hq hne Bd.nil (fun _ _ => trivial)
  rw [hlen] at g
  have e : treeAt (f.take (i + 1)) (i + 1 - 1) = treeAt f i := by
    rw [Nat.add_sub_cancel]
    exact treeAt_take hf (i + 1) (i + 1) i (by omega) (by omega) hi
  rw [e] at g
  have h1 := g.bd.len g.ok g.rep
  have h2 := g.len
  simp only [List.length_nil, Nat.one_mul, Nat.zero_add] at h2
  omega
end Go.Proofs.Ws
