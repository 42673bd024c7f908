/- Layer 6: texts joined: Qf Qg Qh Qi Qj Qk Ql. -/
import Derived.Test.YtcdmchaehafijaaDoorNJj
import Derived.Test.YtcdmchaehafijaaDoorNQp
/- Layer 8 as plain mathematics: the fields of rewritten formulas, and the results. -/
namespace Go.Proofs.Ws
open Go
theorem trAll_sub {P : Nd → Prop} {s : Tr} : ∀ {t : Tr}, subT s t → trAll P t → trAll P s
  | .leaf n, h, k => by have h : s = .leaf n := h; rw [h]; exact k
  | .un n a, h, k => by
    rcases h with h | h
    · rw [h]; exact k
    · exact trAll_sub h k.2
  | .bin n a b, h, k => by
    rcases h with h | h | h
    · rw [h]; exact k
    · exact trAll_sub h k.2.1
    · exact trAll_sub h k.2.2
def rootN : Tr → Nd
  | .leaf n => n
  | .un n _ => n
  | .bin n _ _ => n
theorem trAll_root {P : Nd → Prop} {t : Tr} (h : trAll P t) : P (rootN t) := by
  cases t
  · exact h
  · exact h.1
  · exact h.1
theorem rootN_at {o : List Nd} (ho : opsL o) {k : Nat} (hk : k < o.length) : rootN (treeAt o k) = bare (o.getD k nd0) := by
  rw [treeAt_eq ho hk]
  split
  · rfl
  · split <;> rfl
/-- the fields of the nodes that are taken -/
theorem takeL_fld {o : List Nd} (h : Bd o) {last : Nat} (hl : last < o.length) (hF : trAll fldOk (treeAt o last)) : ∀ n ∈ takeL o last, fldOk n := by
  intro n hn
  have hb := takeL_bd h hl
  have hall := Tk.all h (marks_ok h.ops hl) (last + 1) (last + 1) (Nat.le_refl _)
  obtain ⟨k, hk, hk2⟩ := List.getElem_of_mem hn
  obtain ⟨j, hj1, hj2, hj3⟩ := hall.back k hk
  obtain ⟨hjo, hsub⟩ := (marks_ok h.ops hl).sub j hj2
  have r1 := hall.at_ j hj1 hj2
  rw [hj3] at r1
  have e : treeAt (takeL o last) k = treeAt o j := rep_tree hb.ops _ k (treeAt_ok h.ops (j + 1) j (by omega) hjo) r1
  have h1 := trAll_root (trAll_sub hsub hF)
  rw [← e, rootN_at hb.ops hk, show (takeL o last).getD k nd0 = n from by simp [hk, hk2]] at h1
  exact h1
/-- the formula of a tree, or nothing where it is too long; the error -/
def resL (t : Tr) : List Nd := if 200 < (canT t).length then [] else canT t
def resE (t : Tr) : Int := if 200 < (canT t).length then 8 else 0
theorem take_err {o : List Nd} (h : Bd o) {last : Nat} (hl : last < o.length) (hF : trAll fldOk (treeAt o last)) : fErr (takeL o last) = resE (treeAt o last) := by
  have hne := (takeL_last h hl).1
  have hlen := takeL_len h hl
  unfold resE
  by_cases hh : 200 < (canT (treeAt o last)).length
  · rw [if_pos hh]
    unfold fErr
    rw [if_neg (by have := List.length_pos_iff.2 hne; omega), if_pos (by omega)]
  · rw [if_neg hh]
    exact fErr_zero hne (by omega) (fun j hj => ⟨(takeL_bd h hl).ops j hj, takeL_fld h hl hF _ (getD_mem hj)⟩)
theorem take_comp {o : List Nd} (h : Bd o) {last : Nat} (hl : last < o.length) (hF : trAll fldOk (treeAt o last)) : compF (takeL o last) = resL (treeAt o last) := by
  unfold compF
  rw [take_err h hl hF, takeL_canon h hl]
  unfold resE resL
  by_cases hh : 200 < (canT (treeAt o last)).length
  · rw [if_pos hh, if_pos hh, if_neg (by decide)]
  · rw [if_neg hh, if_neg hh, if_pos rfl]
/-- what a rewriting leaves of the fields -/
def AllOk (t : Tr) : Prop := trOk t ∧ trAll fldOk t
theorem fld_op {op : Int} (h : known op = true) (h1 : shN op = 0) (h2 : shE op = 0) (h3 : shG op = 0) : fldOk (opN op) :=
  ⟨h, ⟨.inr (.inr (.inr rfl)), .inr rfl, .inr rfl⟩, by
    unfold rangeOk
    show ((shN op == 0 || _) && (shE op == 0 || _) && (shG op == 0 || _)) = true
    rw [h1, h2, h3]; rfl⟩
theorem all_const {op : Int} (h : op = 1 ∨ op = 2) : AllOk (cT op) := by
  rcases h with rfl | rfl
  · exact ⟨⟨by decide, by decide, rfl⟩, fld_op (by decide) (by decide) (by decide) (by decide)⟩
  · exact ⟨⟨by decide, by decide, rfl⟩, fld_op (by decide) (by decide) (by decide) (by decide)⟩
theorem all_not {a : Tr} (h : AllOk a) : AllOk (notT a) := ⟨⟨by decide, by decide, rfl, h.1⟩, fld_op (by decide) (by decide) (by decide) (by decide), h.2⟩
theorem all_join {op : Int} (ho : op = 5 ∨ op = 6) {a b : Tr} (h : AllOk a) (k : AllOk b) : AllOk (jT op a b) := by
  rcases ho with rfl | rfl
  · exact ⟨⟨by decide, by decide, rfl, h.1, k.1⟩, fld_op (by decide) (by decide) (by decide) (by decide), h.2, k.2⟩
  · exact ⟨⟨by decide, by decide, rfl, h.1, k.1⟩, fld_op (by decide) (by decide) (by decide) (by decide), h.2, k.2⟩
theorem all_neg {a : Tr} (h : AllOk a) : AllOk (negT a) := by
  cases a with
  | leaf n => exact all_not h
  | bin n a b => exact all_not h
  | un n a =>
    show AllOk (if n.op = 4 then a else notT (.un n a))
    split
    · exact ⟨h.1.2.2.2, h.2.2⟩
    · exact all_not h
theorem all_mk {n : Nd} (hb : bare n = n) (hn : fldOk n) {a b : Tr} (hx : usesX n.op = true → AllOk a) (hy : usesY n.op = true → AllOk b) : AllOk (mkT n a b) := by
  unfold mkT
  split
  · rename_i h
    have h1 := hx (usesY_X h)
    have h2 := hy h
    exact ⟨⟨usesY_X h, h, hb, h1.1, h2.1⟩, hn, h1.2, h2.2⟩
  · rename_i h
    split
    · rename_i h2
      have h1 := hx h2
      exact ⟨⟨h2, Bool.eq_false_iff.2 h, hb, h1.1⟩, hn, h1.2⟩
    · rename_i h2
      exact ⟨⟨Bool.eq_false_iff.2 h2, Bool.eq_false_iff.2 h, hb⟩, hn⟩
/-- a rule on trees that keeps the fields in order -/
def KeepR (R : Nd → Tr → Tr → Tr) : Prop := ∀ n a b, bare n = n → fldOk n → (usesX n.op = true → AllOk a) → (usesY n.op = true → AllOk b) → AllOk (R n a b)
theorem mapT_all {R : Nd → Tr → Tr → Tr} (hR : KeepR R) : ∀ (t : Tr), AllOk t → AllOk (mapT R t)
  | .leaf n, ⟨⟨h1, h2, h3⟩, h4⟩ => hR n noT noT h3 h4 (fun k => by rw [h1] at k; cases k) (fun k => by rw [h2] at k; cases k)
  | .un n a, ⟨⟨_, h2, h3, h5⟩, h4, h6⟩ => hR n _ noT h3 h4 (fun _ => mapT_all hR a ⟨h5, h6⟩) (fun k => by rw [h2] at k; cases k)
  | .bin n a b, ⟨⟨_, _, h3, h5, h7⟩, h4, h6, h8⟩ => hR n _ _ h3 h4 (fun _ => mapT_all hR a ⟨h5, h6⟩) (fun _ => mapT_all hR b ⟨h7, h8⟩)
theorem ifAll {c : Prop} [Decidable c] {s t : Tr} (h : c → AllOk s) (k : ¬ c → AllOk t) : AllOk (if c then s else t) := by
  split
  · exact h ‹_›
  · exact k ‹_›
theorem join_keep {n : Nd} {ne de : Int} (hd : de = 1 ∨ de = 2) {a b : Tr} (ha : AllOk a) (hb : AllOk b) (hm : AllOk (mkT n a b)) : AllOk (sJoinT n ne de a b) :=
  ifAll (fun _ => all_const hd) fun _ => ifAll (fun _ => hb) fun _ => ifAll (fun _ => ha) fun _ => ifAll (fun _ => all_const hd) fun _ => hm
theorem sim_keep : KeepR simT := by
  intro n a b hb hn hx hy
  have hm := all_mk hb hn hx hy
  unfold simT
  refine ifAll (fun e => ?_) fun _ => ifAll (fun e => ?_) fun _ => ifAll (fun e => ?_) fun _ => ifAll (fun e => ?_) fun _ => ifAll (fun e => ?_) fun _ => ifAll (fun e => ?_) fun _ => ifAll (fun e => ?_) fun _ => ifAll (fun e => ?_) fun _ => ifAll (fun _ => ?_) fun _ => hm
  · have ha := hx (by rw [e]; decide)
    exact ifAll (fun _ => all_const (.inr rfl)) fun _ => ifAll (fun _ => all_const (.inl rfl)) fun _ => all_neg ha
  · exact join_keep (.inr rfl) (hx (by rw [e]; decide)) (hy (by rw [e]; decide)) hm
  · exact join_keep (.inl rfl) (hx (by rw [e]; decide)) (hy (by rw [e]; decide)) hm
  · have ha := hx (by rw [e]; decide)
    have hb := hy (by rw [e]; decide)
    exact ifAll (fun _ => all_const (.inl rfl)) fun _ => ifAll (fun _ => hb) fun _ => ifAll (fun _ => all_neg ha) fun _ => hm
  · have ha := hx (by rw [e]; decide)
    have hb := hy (by rw [e]; decide)
    exact ifAll (fun _ => all_const (.inl rfl)) fun _ => ifAll (fun _ => all_const (.inr rfl)) fun _ => ifAll (fun _ => hb) fun _ => ifAll (fun _ => ha) fun _ => ifAll (fun _ => all_neg hb) fun _ => ifAll (fun _ => all_neg ha) fun _ => hm
  · have ha := hx (by rw [e]; decide)
    exact ifAll (fun _ => ha) fun _ => hm
  · have ha := hx (by
      unfold boxOp at e
      unfold usesX
      simp only [Bool.or_eq_true, Bool.and_eq_true, decide_eq_true_eq] at e ⊢
      omega)
    exact ifAll (fun _ => ha) fun _ => hm
  · have hb := hy (by rw [e]; decide)
    exact ifAll (fun _ => hb) fun _ => ifAll (fun _ => all_const (.inl rfl)) fun _ => hm
  · exact ifAll (fun _ => all_const (.inl rfl)) fun _ => hm
theorem tOf_all {f : List Nd} (h : fErr f = 0) : AllOk (tOf f) := by
  have hpos := List.length_pos_iff.2 (fErr_ok h).1
  exact ⟨treeAt_ok (fErr_ops h) _ _ (Nat.lt_succ_self _) (by omega), treeAt_all (fErr_ops h) (fun n hn => fErr_fld h n hn) _ _ (Nat.lt_succ_self _) (by omega)⟩
theorem tOf_comp {f : List Nd} (h : fErr f = 0) : tOf (compF f) = tOf f := by
  unfold tOf
  rw [compF_tree h]
  exact canT_tree (tOf_all h).1
end Go.Proofs.Ws
/- Layer 8 as plain mathematics: simplification as the reference does it. -/
namespace Go.Proofs.Ws
open Go
theorem leaf_const {op : Int} {a : Tr} (h : AllOk a) (ht : topT a = op) (hx : usesX op = false) (h3 : op ≠ 3) (h1 : hasAgent op = false) (h2 : hasGroup op = false) : a = cT op := by
  cases a with
  | un n a => have h4 := h.1.1; have : n.op = op := ht; rw [this, hx] at h4; cases h4
  | bin n a b => have h4 := h.1.1; have : n.op = op := ht; rw [this, hx] at h4; cases h4
  | leaf n =>
    have ht : n.op = op := ht
    obtain ⟨_, _, hb⟩ := h.1
    obtain ⟨k1, ⟨k2, k3, k4⟩, _⟩ := (show fldOk n from h.2)
    obtain ⟨b1, b2⟩ := bare_x hb
    have h17 : op ≠ 17 := by intro e; rw [e] at hx; cases hx
    rw [ht] at k2 k3 k4
    have e1 : n.i = 0 := by
      rcases k2 with k | k | k | k
      · exact absurd k h3
      · rw [h1] at k; cases k
      · exact absurd k h17
      · exact k
    have e2 : n.e = 0 := k3.resolve_left h17
    have e3 : n.g = 0 := k4.resolve_left (by rw [h2]; decide)
    unfold cT opN
    obtain ⟨o1, o2, o3, o4, o5, o6⟩ := n
    simp only at ht e1 e2 e3 b1 b2
    rw [ht, e1, e2, e3, b1, b2]
theorem top_true {a : Tr} (h : AllOk a) (ht : topT a = 1) : a = cT 1 := leaf_const h ht (by decide) (by decide) (by decide) (by decide)
theorem top_false {a : Tr} (h : AllOk a) (ht : topT a = 2) : a = cT 2 := leaf_const h ht (by decide) (by decide) (by decide) (by decide)
theorem not_node {n : Nd} (hn : fldOk n) (hb : bare n = n) (e : n.op = 4) : n = opN 4 := by
  obtain ⟨k1, ⟨k2, k3, k4⟩, _⟩ := hn
  obtain ⟨b1, b2⟩ := bare_x hb
  rw [e] at k2 k3 k4
  have e1 : n.i = 0 := by
    rcases k2 with k | k | k | k
    · cases k
    · cases k
    · cases k
    · exact k
  have e2 : n.e = 0 := k3.resolve_left (by decide)
  have e3 : n.g = 0 := k4.resolve_left (by decide)
  unfold opN
  obtain ⟨o1, o2, o3, o4, o5, o6⟩ := n
  simp only at e e1 e2 e3 b1 b2
  rw [e, e1, e2, e3, b1, b2]
end Go.Proofs.Ws
/- Layer 8 as plain mathematics: simplifying twice; the form of a normal form and of a formula with few operators (RewriteForms). -/
namespace Go.Proofs.Ws
open Go
theorem ifOr {c : Prop} [Decidable c] {P : Tr → Prop} {s t : Tr} (h : c → P s) (k : ¬ c → P t) : P (if c then s else t) := by
  split
  · exact h ‹_›
  · exact k ‹_›
end Go.Proofs.Ws
/- Layer 8 as plain mathematics: two substitutions one after the other (RewriteTwice); the closure of a formula (RewriteClosed). -/
namespace Go.Proofs.Ws
open Go
theorem subR_mk {ts : List Tr} {n : Nd} {a b : Tr} (h : n.op ≠ 3) : subR ts n a b = mkT n a b := if_neg (fun k => h k.1)
theorem subR_fact {ts : List Tr} {n : Nd} {a b : Tr} (h : n.op = 3) (hi : n.i.toNat < ts.length) : subR ts n a b = ts.getD n.i.toNat noT := if_pos ⟨h, hi⟩
theorem mapT_mk_un {n : Nd} {a : Tr} (h1 : usesX n.op = true) (h2 : usesY n.op = false) : mkT n a noT = .un n a := by
  unfold mkT; rw [if_neg (by rw [h2]; decide), if_pos h1]
theorem mapT_mk_bin {n : Nd} {a b : Tr} (h2 : usesY n.op = true) : mkT n a b = .bin n a b := by
  unfold mkT; rw [if_pos h2]
theorem not_fact {n : Nd} (h : usesX n.op = true) : n.op ≠ 3 := by intro e; rw [e] at h; cases h
theorem fact_node {n : Nd} (hn : fldOk n) (hb : bare n = n) (e : n.op = 3) : n = ⟨3, n.i, 0, 0, 0, 0⟩ ∧ 0 ≤ n.i ∧ n.i < 8 := by
  obtain ⟨k1, ⟨k2, k3, k4⟩, k5⟩ := hn
  obtain ⟨b1, b2⟩ := bare_x hb
  rw [e] at k3 k4
  have e2 : n.e = 0 := k3.resolve_left (by decide)
  have e3 : n.g = 0 := k4.resolve_left (by decide)
  unfold rangeOk at k5
  rw [e] at k5
  have h8 : shN 3 = 8 := by decide
  rw [h8] at k5
  simp at k5
  refine ⟨?_, k5.1.1.1, k5.1.1.2⟩
  obtain ⟨o1, o2, o3, o4, o5, o6⟩ := n
  simp only at e e2 e3 b1 b2
  rw [e, e2, e3, b1, b2]
def factT (i : Nat) : Tr := .leaf ⟨3, (i : Int), 0, 0, 0, 0⟩
/-- substituting each fact by itself changes nothing -/
theorem sub_self {ts : List Tr} (hts : ∀ i, i < ts.length → ts.getD i noT = factT i) : ∀ (t : Tr), AllOk t → mapT (subR ts) t = t
  | .leaf n, ⟨⟨h1, h2, h3⟩, h4⟩ => by
    show subR ts n noT noT = _
    by_cases h : n.op = 3 ∧ n.i.toNat < ts.length
    · obtain ⟨e, e0, _⟩ := fact_node h4 h3 h.1
      rw [subR_fact h.1 h.2, hts _ h.2]
      unfold factT
      rw [Int.toNat_of_nonneg e0, ← e]
    · unfold subR
      rw [if_neg h]
      unfold mkT
      rw [if_neg (by rw [h2]; decide), if_neg (by rw [h1]; decide)]
  | .un n a, ⟨⟨h1, h2, _, h5⟩, h4, h6⟩ => by
    show subR ts n (mapT (subR ts) a) noT = _
    rw [sub_self hts a ⟨h5, h6⟩, subR_mk (not_fact h1), mapT_mk_un h1 h2]
  | .bin n a b, ⟨⟨h1, h2, _, h5, h7⟩, h4, h6, h8⟩ => by
    show subR ts n (mapT (subR ts) a) (mapT (subR ts) b) = _
    rw [sub_self hts a ⟨h5, h6⟩, sub_self hts b ⟨h7, h8⟩, subR_mk (not_fact h1), mapT_mk_bin h2]
theorem negT_cases {t : Tr} (h : AllOk t) : (∃ a, t = notT a ∧ negT t = a) ∨ (topT t ≠ 4 ∧ negT t = notT t) := by
  by_cases h4 : topT t = 4
  · cases t with
    | leaf n => have h3 := h.1.1; have : n.op = 4 := h4; rw [this] at h3; cases h3
    | bin n a b => have h3 := h.1.2.1; have : n.op = 4 := h4; rw [this] at h3; cases h3
    | un n a =>
      refine .inl ⟨a, ?_, if_pos (show n.op = 4 from h4)⟩
      rw [not_node h.2.1 h.1.2.2.1 h4]; rfl
  · exact .inr ⟨h4, negT_not h.1 h4⟩
end Go.Proofs.Ws
/- Layer 8 as plain mathematics: in a small model, rewritten formulas have the truth of the formula (RewriteMeans). -/
namespace Go.Proofs.Ws
open Go
/-- a set of worlds: one of 16 -/
abbrev B4 := Fin 16
def nB (x : B4) : B4 := 15 - x
def aB (x y : B4) : B4 := x &&& y
def oB (x y : B4) : B4 := x ||| y
theorem nB_nB : ∀ x : B4, nB (nB x) = x := by decide
theorem nB_t : nB 15 = 0 := by decide
theorem nB_f : nB 0 = 15 := by decide
theorem aB_t : ∀ x : B4, aB 15 x = x ∧ aB x 15 = x ∧ aB 0 x = 0 ∧ aB x 0 = 0 ∧ aB x x = x ∧ aB x (nB x) = 0 ∧ aB (nB x) x = 0 := by decide
theorem oB_t : ∀ x : B4, oB 15 x = 15 ∧ oB x 15 = 15 ∧ oB 0 x = x ∧ oB x 0 = x ∧ oB x x = x ∧ oB x (nB x) = 15 ∧ oB (nB x) x = 15 := by decide
/-- what the other operators mean: of a model -/
structure Sem where
  fact : Int → B4
  know : Int → B4 → B4
  every : Int → B4 → B4
  dist : Int → B4 → B4
  com : Int → B4 → B4 → B4
  know_t : ∀ i, know i 15 = 15
  every_t : ∀ g, every g 15 = 15
  dist_t : ∀ g, dist g 15 = 15
  com_f : ∀ g y, com g 0 y = 15
  com_t : ∀ g x, com g x 15 = 15
def evN (M : Sem) (n : Nd) (x y : B4) : B4 :=
  if n.op = 1 then 15 else if n.op = 2 then 0 else if n.op = 3 then M.fact n.i else if n.op = 4 then nB x
  else if n.op = 5 then aB x y else if n.op = 6 then oB x y else if n.op = 7 then oB (nB x) y else if n.op = 8 then oB (aB x y) (aB (nB x) (nB y))
  else if n.op = 9 then M.know n.i x else if n.op = 10 then nB (M.know n.i (nB x)) else if n.op = 11 then M.every n.g x else if n.op = 12 then M.dist n.g x
  else if n.op = 13 then M.com n.g x y else 0
def evT (M : Sem) : Tr → B4
  | .leaf n => evN M n 0 0
  | .un n a => evN M n (evT M a) 0
  | .bin n a b => evN M n (evT M a) (evT M b)
/-- static operators -/
def stN (n : Nd) : Prop := 1 ≤ n.op ∧ n.op ≤ 13
/-- an operand that is not used does not matter -/
theorem evN_x (M : Sem) {n : Nd} (h : usesX n.op = false) (x x' y y' : B4) (hs : stN n) : evN M n x y = evN M n x' y' := by
  have h1 : ¬ 4 ≤ n.op := by
    intro k
    unfold usesX at h
    unfold stN at hs
    simp at h
    omega
  have := hs.1
  unfold evN
  by_cases e1 : n.op = 1
  · rw [if_pos e1, if_pos e1]
  by_cases e2 : n.op = 2
  · rw [if_neg e1, if_pos e2, if_neg e1, if_pos e2]
  · have e3 : n.op = 3 := by omega
    rw [if_neg e1, if_neg e2, if_pos e3, if_neg e1, if_neg e2, if_pos e3]
theorem evN_y (M : Sem) {n : Nd} (h : usesY n.op = false) (x y y' : B4) : evN M n x y = evN M n x y' := by
  have h5 : n.op ≠ 5 := by intro e; rw [e] at h; cases h
  have h6 : n.op ≠ 6 := by intro e; rw [e] at h; cases h
  have h7 : n.op ≠ 7 := by intro e; rw [e] at h; cases h
  have h8 : n.op ≠ 8 := by intro e; rw [e] at h; cases h
  have h13 : n.op ≠ 13 := by intro e; rw [e] at h; cases h
  unfold evN
  simp only [if_neg h5, if_neg h6, if_neg h7, if_neg h8, if_neg h13]
theorem ev_mk (M : Sem) {n : Nd} (hs : stN n) (a b : Tr) : evT M (mkT n a b) = evN M n (evT M a) (evT M b) := by
  unfold mkT
  split
  · rfl
  · rename_i hy
    split
    · exact evN_y M (Bool.eq_false_iff.2 hy) _ _ _
    · rename_i hx
      exact evN_x M (Bool.eq_false_iff.2 hx) _ _ _ _ hs
theorem ev_not (M : Sem) (a : Tr) : evT M (notT a) = nB (evT M a) := rfl
theorem ev_neg (M : Sem) {t : Tr} (h : AllOk t) : evT M (negT t) = nB (evT M t) := by
  rcases negT_cases h with ⟨a, ha, hb⟩ | ⟨_, hb⟩
  · rw [hb, ha, ev_not, nB_nB]
  · rw [hb, ev_not]
theorem ev_top1 (M : Sem) {a : Tr} (h : AllOk a) (k : topT a = 1) : evT M a = 15 := by rw [top_true h k]; rfl
theorem ev_top2 (M : Sem) {a : Tr} (h : AllOk a) (k : topT a = 2) : evT M a = 0 := by rw [top_false h k]; rfl
theorem ev_opp (M : Sem) {a b : Tr} (h : oppT a b) : evT M a = nB (evT M b) := by
  rcases h with h | h
  · rw [h, ev_not]
  · rw [h, ev_not, nB_nB]
theorem evN_op (M : Sem) (n : Nd) (x y : B4) :
    (n.op = 4 → evN M n x y = nB x) ∧ (n.op = 5 → evN M n x y = aB x y) ∧ (n.op = 6 → evN M n x y = oB x y) ∧ (n.op = 7 → evN M n x y = oB (nB x) y) ∧ (n.op = 8 → evN M n x y = oB (aB x y) (aB (nB x) (nB y))) ∧
    (n.op = 9 → evN M n x y = M.know n.i x) ∧ (n.op = 10 → evN M n x y = nB (M.know n.i (nB x))) ∧ (n.op = 11 → evN M n x y = M.every n.g x) ∧ (n.op = 12 → evN M n x y = M.dist n.g x) ∧ (n.op = 13 → evN M n x y = M.com n.g x y) ∧ (n.op = 1 → evN M n x y = 15) ∧ (n.op = 2 → evN M n x y = 0) := by
  refine ⟨?_, ?_, ?_, ?_, ?_, ?_, ?_, ?_, ?_, ?_, ?_, ?_⟩ <;> (intro e; unfold evN; simp [e])
theorem iff_facts : ∀ x y : B4, oB (aB x x) (aB (nB x) (nB x)) = 15 ∧ oB (aB (nB y) y) (aB (nB (nB y)) (nB y)) = 0 ∧ oB (aB 15 y) (aB (nB 15) (nB y)) = y ∧ oB (aB x 15) (aB (nB x) (nB 15)) = x ∧ oB (aB 0 y) (aB (nB 0) (nB y)) = nB y ∧ oB (aB x 0) (aB (nB x) (nB 0)) = nB x := by decide
/-- a property of what a nested choice gives -/
def EvIs (M : Sem) (v : B4) (t : Tr) : Prop := evT M t = v
theorem ifE {M : Sem} {v : B4} {c : Prop} [Decidable c] {s t : Tr} (h : c → EvIs M v s) (k : ¬ c → EvIs M v t) : EvIs M v (if c then s else t) := ifOr (P := EvIs M v) h k
theorem ev_sim (M : Sem) {n : Nd} (hs : stN n) {a b : Tr} (hx : usesX n.op = true → AllOk a) (hy : usesY n.op = true → AllOk b) : evT M (simT n a b) = evN M n (evT M a) (evT M b) := by
  have hm : EvIs M (evN M n (evT M a) (evT M b)) (mkT n a b) := ev_mk M hs a b
  have E := evN_op M n (evT M a) (evT M b)
  show EvIs M (evN M n (evT M a) (evT M b)) (simT n a b)
  unfold simT
  refine ifE (fun e => ?_) fun _ => ifE (fun e => ?_) fun _ => ifE (fun e => ?_) fun _ => ifE (fun e => ?_) fun _ => ifE (fun e => ?_) fun _ => ifE (fun e => ?_) fun _ => ifE (fun e => ?_) fun _ => ifE (fun e => ?_) fun _ => ifE (fun e => ?_) fun _ => hm
  · have ha := hx (by rw [e]; decide)
    rw [E.1 e]
    refine ifE (fun h => ?_) fun _ => ifE (fun h => ?_) fun _ => ev_neg M ha
    · show _ = _; rw [ev_top1 M ha h]; rfl
    · show _ = _; rw [ev_top2 M ha h]; rfl
  · have ha := hx (by rw [e]; decide)
    have hb := hy (by rw [e]; decide)
    rw [E.2.1 e] at hm ⊢
    refine ifE (fun h => ?_) fun _ => ifE (fun h => ?_) fun _ => ifE (fun h => ?_) fun _ => ifE (fun h => ?_) fun _ => hm
    · show (0 : B4) = _
      rcases h with h | h
      · rw [ev_top2 M ha h]; exact (aB_t _).2.2.1.symm
      · rw [ev_top2 M hb h]; exact (aB_t _).2.2.2.1.symm
    · show _ = _; rw [ev_top1 M ha h]; exact (aB_t _).1.symm
    · show _ = _
      rcases h with h | h
      · rw [ev_top1 M hb h]; exact (aB_t _).2.1.symm
      · rw [h]; exact (aB_t _).2.2.2.2.1.symm
    · show (0 : B4) = _
      rw [ev_opp M h]; exact (aB_t _).2.2.2.2.2.2.symm
  · have ha := hx (by rw [e]; decide)
    have hb := hy (by rw [e]; decide)
    rw [E.2.2.1 e] at hm ⊢
    refine ifE (fun h => ?_) fun _ => ifE (fun h => ?_) fun _ => ifE (fun h => ?_) fun _ => ifE (fun h => ?_) fun _ => hm
    · show (15 : B4) = _
      rcases h with h | h
      · rw [ev_top1 M ha h]; exact (oB_t _).1.symm
      · rw [ev_top1 M hb h]; exact (oB_t _).2.1.symm
    · show _ = _; rw [ev_top2 M ha h]; exact (oB_t _).2.2.1.symm
    · show _ = _
      rcases h with h | h
      · rw [ev_top2 M hb h]; exact (oB_t _).2.2.2.1.symm
      · rw [h]; exact (oB_t _).2.2.2.2.1.symm
    · show (15 : B4) = _
      rw [ev_opp M h]; exact (oB_t _).2.2.2.2.2.2.symm
  · have ha := hx (by rw [e]; decide)
    have hb := hy (by rw [e]; decide)
    rw [E.2.2.2.1 e] at hm ⊢
    refine ifE (fun h => ?_) fun _ => ifE (fun h => ?_) fun _ => ifE (fun h => ?_) fun _ => hm
    · show (15 : B4) = _
      rcases h with h | h | h
      · rw [ev_top2 M ha h, nB_f]; exact (oB_t _).1.symm
      · rw [ev_top1 M hb h]; exact (oB_t _).2.1.symm
      · rw [h]; exact (oB_t _).2.2.2.2.2.2.symm
    · show _ = _; rw [ev_top1 M ha h, nB_t]; exact (oB_t _).2.2.1.symm
    · show _ = _; rw [ev_top2 M hb h, ev_neg M ha]; exact (oB_t _).2.2.2.1.symm
  · have ha := hx (by rw [e]; decide)
    have hb := hy (by rw [e]; decide)
    rw [E.2.2.2.2.1 e] at hm ⊢
    refine ifE (fun h => ?_) fun _ => ifE (fun h => ?_) fun _ => ifE (fun h => ?_) fun _ => ifE (fun h => ?_) fun _ => ifE (fun h => ?_) fun _ => ifE (fun h => ?_) fun _ => hm
    · show (15 : B4) = _; rw [h]; exact (iff_facts (evT M b) 0).1.symm
    · show (0 : B4) = _; rw [ev_opp M h]; exact (iff_facts 0 (evT M b)).2.1.symm
    · show _ = _; rw [ev_top1 M ha h]; exact (iff_facts 0 (evT M b)).2.2.1.symm
    · show _ = _; rw [ev_top1 M hb h]; exact (iff_facts (evT M a) 0).2.2.2.1.symm
    · show _ = _; rw [ev_top2 M ha h, ev_neg M hb]; exact (iff_facts 0 (evT M b)).2.2.2.2.1.symm
    · show _ = _; rw [ev_top2 M hb h, ev_neg M ha]; exact (iff_facts (evT M a) 0).2.2.2.2.2.symm
  · have ha := hx (by rw [e]; decide)
    rw [E.2.2.2.2.2.2.1 e] at hm ⊢
    refine ifE (fun h => ?_) fun _ => hm
    show _ = _; rw [ev_top2 M ha h, nB_f, M.know_t, nB_t]
  · have hc : n.op = 9 ∨ n.op = 11 ∨ n.op = 12 := by
      have := hs.2
      unfold boxOp at e
      simp only [Bool.or_eq_true, decide_eq_true_eq] at e
      omega
    refine ifE (fun h => ?_) fun _ => hm
    have ha := hx (by rcases hc with k | k | k <;> (rw [k]; decide))
    show _ = _
    rw [ev_top1 M ha h] at E ⊢
    rcases hc with k | k | k
    · rw [E.2.2.2.2.2.1 k, M.know_t]
    · rw [E.2.2.2.2.2.2.2.1 k, M.every_t]
    · rw [E.2.2.2.2.2.2.2.2.1 k, M.dist_t]
  · have := hs.2
    omega
  · have e : n.op = 13 := by have := hs.2; omega
    have ha := hx (by rw [e]; decide)
    have hb := hy (by rw [e]; decide)
    rw [E.2.2.2.2.2.2.2.2.2.1 e] at hm ⊢
    refine ifE (fun h => ?_) fun _ => hm
    show (15 : B4) = _
    rcases h with h | h
    · rw [ev_top2 M ha h, M.com_f]
    · rw [ev_top1 M hb h, M.com_t]
/-- the whole trees -/
theorem sim_means (M : Sem) : ∀ (t : Tr), AllOk t → trAll stN t → evT M (mapT simT t) = evT M t
  | .leaf n, ⟨⟨h1, h2, _⟩, _⟩, hs => by
    show evT M (simT n noT noT) = evN M n 0 0
    rw [ev_sim M hs (fun k => by rw [h1] at k; cases k) (fun k => by rw [h2] at k; cases k)]
    exact evN_x M h1 _ _ _ _ hs
  | .un n a, ⟨⟨_, h2, _, h5⟩, _, h6⟩, hs => by
    show evT M (simT n (mapT simT a) noT) = evN M n (evT M a) 0
    rw [ev_sim M hs.1 (fun _ => mapT_all sim_keep a ⟨h5, h6⟩) (fun k => by rw [h2] at k; cases k), sim_means M a ⟨h5, h6⟩ hs.2]
    exact evN_y M h2 _ _ _
  | .bin n a b, ⟨⟨_, _, _, h5, h7⟩, _, h6, h8⟩, hs => by
    show evT M (simT n (mapT simT a) (mapT simT b)) = evN M n (evT M a) (evT M b)
    rw [ev_sim M hs.1 (fun _ => mapT_all sim_keep a ⟨h5, h6⟩) (fun _ => mapT_all sim_keep b ⟨h7, h8⟩), sim_means M a ⟨h5, h6⟩ hs.2.1, sim_means M b ⟨h7, h8⟩ hs.2.2]
end Go.Proofs.Ws
/- Layer 8 as plain mathematics: what is rewritten stays static. -/
namespace Go.Proofs.Ws
open Go
end Go.Proofs.Ws
/- Layer 8 as plain mathematics: results that are too long stay empty above (the reference's Subst, Simplify). -/
namespace Go.Proofs.Ws
open Go
theorem resL_short {t : Tr} (h : (canT t).length ≤ 200) : resL t = canT t := if_neg (by omega)
theorem canT_good {t : Tr} (h : AllOk t) (hl : (canT t).length ≤ 200) : fErr (canT t) = 0 :=
  fErr_zero (canT_ne t) hl (fun j hj => ⟨canT_ops h.1 j hj, by
    have h1 := trAll_root (trAll_sub (canT_sub h.1 hj) h.2)
    rw [rootN_at (canT_ops h.1) hj] at h1
    exact h1⟩)
/-- the error of a result, where it is taken for a formula -/
theorem resL_err {t : Tr} (h : AllOk t) : fErr (resL t) = if 200 < (canT t).length then 3 else 0 := by
  unfold resL
  by_cases hl : 200 < (canT t).length
  · rw [if_pos hl, if_pos hl]; rfl
  · rw [if_neg hl, if_neg hl]; exact canT_good h (by omega)
end Go.Proofs.Ws
