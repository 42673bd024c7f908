/- Layer 6: texts joined: Eg Eh Ej Ek El. -/
import Derived.Test.YtcdmchaehafijaaDoorNEa
import Derived.Test.YtcdmchaehafijaaDoorNQq
/- Layer 9 as plain mathematics: the simplified formula of a truth table (FromTable). -/
namespace Go.Proofs.Ws
open Go
/-- a property of nodes that the constants and negations have -/
structure GenP (P : Nd → Prop) : Prop where
  t : P (opN 1)
  f : P (opN 2)
  n : P (opN 4)
theorem gp_const {P : Nd → Prop} (G : GenP P) {op : Int} (h : op = 1 ∨ op = 2) : trAll P (cT op) := by
  rcases h with rfl | rfl
  · exact G.t
  · exact G.f
theorem gp_not {P : Nd → Prop} (G : GenP P) {a : Tr} (h : trAll P a) : trAll P (notT a) := ⟨G.n, h⟩
theorem gp_neg {P : Nd → Prop} (G : GenP P) {a : Tr} (h : trAll P a) : trAll P (negT a) := by
  cases a with
  | leaf n => exact gp_not G h
  | bin n a b => exact gp_not G h
  | un n a =>
    show trAll P (if n.op = 4 then a else notT (.un n a))
    split
    · exact h.2
    · exact gp_not G h
theorem gp_mk {P : Nd → Prop} {n : Nd} (hn : P n) {a b : Tr} (hx : usesX n.op = true → trAll P a) (hy : usesY n.op = true → trAll P b) : trAll P (mkT n a b) := by
  unfold mkT
  split
  · rename_i h
    exact ⟨hn, hx (usesY_X h), hy h⟩
  · split
    · rename_i h2
      exact ⟨hn, hx h2⟩
    · exact hn
theorem ifG {P : Nd → Prop} {c : Prop} [Decidable c] {s t : Tr} (h : c → trAll P s) (k : ¬ c → trAll P t) : trAll P (if c then s else t) := ifOr (P := trAll P) h k
theorem gp_sim {P : Nd → Prop} (G : GenP P) {n : Nd} (hn : P n) {a b : Tr} (hx : usesX n.op = true → trAll P a) (hy : usesY n.op = true → trAll P b) : trAll P (simT n a b) := by
  have hm := gp_mk hn hx hy
  have jn : ∀ (ne de : Int), (de = 1 ∨ de = 2) → trAll P a → trAll P b → trAll P (sJoinT n ne de a b) := fun ne de hd ha hb =>
    ifG (fun _ => gp_const G hd) fun _ => ifG (fun _ => hb) fun _ => ifG (fun _ => ha) fun _ => ifG (fun _ => gp_const G hd) fun _ => hm
  unfold simT
  refine ifG (fun e => ?_) fun _ => ifG (fun e => ?_) fun _ => ifG (fun e => ?_) fun _ => ifG (fun e => ?_) fun _ => ifG (fun e => ?_) fun _ => ifG (fun e => ?_) fun _ => ifG (fun e => ?_) fun _ => ifG (fun e => ?_) fun _ => ifG (fun _ => ?_) fun _ => hm
  · have ha := hx (by rw [e]; decide)
    exact ifG (fun _ => gp_const G (.inr rfl)) fun _ => ifG (fun _ => gp_const G (.inl rfl)) fun _ => gp_neg G ha
  · exact jn 1 2 (.inr rfl) (hx (by rw [e]; decide)) (hy (by rw [e]; decide))
  · exact jn 2 1 (.inl rfl) (hx (by rw [e]; decide)) (hy (by rw [e]; decide))
  · have ha := hx (by rw [e]; decide)
    have hb := hy (by rw [e]; decide)
    exact ifG (fun _ => gp_const G (.inl rfl)) fun _ => ifG (fun _ => hb) fun _ => ifG (fun _ => gp_neg G ha) fun _ => hm
  · have ha := hx (by rw [e]; decide)
    have hb := hy (by rw [e]; decide)
    exact ifG (fun _ => gp_const G (.inl rfl)) fun _ => ifG (fun _ => gp_const G (.inr rfl)) fun _ => ifG (fun _ => hb) fun _ => ifG (fun _ => ha) fun _ => ifG (fun _ => gp_neg G hb) fun _ => ifG (fun _ => gp_neg G ha) fun _ => hm
  · exact ifG (fun _ => hx (by rw [e]; decide)) fun _ => hm
  · have ha := hx (by
      unfold boxOp at e
      unfold usesX
      simp only [Bool.or_eq_true, Bool.and_eq_true, decide_eq_true_eq] at e ⊢
      omega)
    exact ifG (fun _ => ha) fun _ => hm
  · exact ifG (fun _ => hy (by rw [e]; decide)) fun _ => ifG (fun _ => gp_const G (.inl rfl)) fun _ => hm
  · exact ifG (fun _ => gp_const G (.inl rfl)) fun _ => hm
theorem sim_gen {P : Nd → Prop} (G : GenP P) : ∀ (t : Tr), trOk t → trAll P t → trAll P (mapT simT t)
  | .leaf n, ⟨h1, h2, _⟩, hs => gp_sim G (a := noT) (b := noT) hs (fun k => by rw [h1] at k; cases k) (fun k => by rw [h2] at k; cases k)
  | .un n a, ⟨_, h2, _, h5⟩, hs => gp_sim G (b := noT) hs.1 (fun _ => sim_gen G a h5 hs.2) (fun k => by rw [h2] at k; cases k)
  | .bin n a b, ⟨_, _, _, h5, h7⟩, hs => gp_sim G hs.1 (fun _ => sim_gen G a h5 hs.2.1) (fun _ => sim_gen G b h7 hs.2.2)
/-- propositional nodes of the facts below m -/
def prN (m : Nat) (n : Nd) : Prop := 1 ≤ n.op ∧ n.op ≤ 8 ∧ (n.op = 3 → n.i.toNat < m)
theorem prN_gen (m : Nat) : GenP (prN m) := ⟨⟨by decide, by decide, fun h => absurd h (by decide)⟩, ⟨by decide, by decide, fun h => absurd h (by decide)⟩, ⟨by decide, by decide, fun h => absurd h (by decide)⟩⟩
theorem prN_op (m : Nat) {op : Int} (h1 : 1 ≤ op) (h8 : op ≤ 8) (h3 : op ≠ 3) : prN m (opN op) := ⟨h1, h8, fun h => absurd h h3⟩
theorem prN_fact {m i : Nat} (h : i < m) : trAll (prN m) (factN i) := ⟨by show (1 : Int) ≤ 3; decide, by show (3 : Int) ≤ 8; decide, fun _ => by show ((i : Int)).toNat < m; rw [Int.toNat_natCast]; exact h⟩
theorem exp_pr (m : Nat) : ∀ n t, n ≤ m → trAll (prN m) (expT n t)
  | 0, t, _ => by unfold expT; split; exact (prN_gen m).f; exact (prN_gen m).t
  | n + 1, t, h => by
    have h1 := exp_pr m n (lowN n t) (by omega)
    have h2 := exp_pr m n (highN n t) (by omega)
    have hf : trAll (prN m) (factN n) := prN_fact (by omega)
    unfold expT
    split
    · exact (prN_gen m).f
    split
    · exact (prN_gen m).t
    split
    · exact h2
    refine ⟨prN_op m (by decide) (by decide) (by decide), ?_, ?_⟩
    · unfold withT
      split
      · exact h2
      · exact ⟨prN_op m (by decide) (by decide) (by decide), hf, h2⟩
    · unfold withoutT
      split
      · exact h1
      · exact ⟨prN_op m (by decide) (by decide) (by decide), ⟨(prN_gen m).n, hf⟩, h1⟩
theorem fact_all {i : Nat} (h : i < 8) : AllOk (factN i) := by
  refine ⟨fact_ok i, ?_⟩
  show fldOk ⟨3, (i : Int), 0, 0, 0, 0⟩
  refine ⟨rfl, ⟨.inl rfl, .inr rfl, .inr rfl⟩, ?_⟩
  have : i = 0 ∨ i = 1 ∨ i = 2 ∨ i = 3 ∨ i = 4 ∨ i = 5 ∨ i = 6 ∨ i = 7 := by omega
  rcases this with rfl | rfl | rfl | rfl | rfl | rfl | rfl | rfl <;> rfl
theorem exp_all : ∀ n t, n ≤ 8 → AllOk (expT n t)
  | 0, t, _ => by unfold expT; split; exact all_const (.inr rfl); exact all_const (.inl rfl)
  | n + 1, t, h => by
    have h1 := exp_all n (lowN n t) (by omega)
    have h2 := exp_all n (highN n t) (by omega)
    have hf := fact_all (i := n) (by omega)
    unfold expT
    split
    · exact all_const (.inr rfl)
    split
    · exact all_const (.inl rfl)
    split
    · exact h2
    refine all_join (.inr rfl) ?_ ?_
    · unfold withT
      split
      · exact h2
      · exact all_join (.inl rfl) hf h2
    · unfold withoutT
      split
      · exact h1
      · exact all_join (.inl rfl) (all_not hf) h1
/-- the truth at one valuation, as a set of worlds that is all or nothing -/
def semV (v : Nat) : Sem where
  fact := fun i => if v.testBit i.toNat = true then 15 else 0
  know := fun _ _ => 15
  every := fun _ _ => 15
  dist := fun _ _ => 15
  com := fun _ _ _ => 15
  know_t := fun _ => rfl
  every_t := fun _ => rfl
  dist_t := fun _ => rfl
  com_f := fun _ _ => rfl
  com_t := fun _ _ => rfl
def b4 (b : Bool) : B4 := if b = true then 15 else 0
theorem b4_ops : ∀ x y : Bool, nB (b4 x) = b4 (!x) ∧ aB (b4 x) (b4 y) = b4 (x && y) ∧ oB (b4 x) (b4 y) = b4 (x || y) ∧ oB (nB (b4 x)) (b4 y) = b4 (!x || y) ∧ oB (aB (b4 x) (b4 y)) (aB (nB (b4 x)) (nB (b4 y))) = b4 (x == y) := by decide
theorem b4_inj : ∀ x y : Bool, b4 x = b4 y → x = y := by decide
theorem evN_b (v m : Nat) {n : Nd} (hp : prN m n) (x y g : Bool) (hg : n.op = 3 → g = v.testBit n.i.toNat) : evN (semV v) n (b4 x) (b4 y) = b4 (bNode n.op x y g) := by
  obtain ⟨h1, h8, _⟩ := hp
  have E := evN_op (semV v) n (b4 x) (b4 y)
  have B := b4_ops x y
  have hc : n.op = 1 ∨ n.op = 2 ∨ n.op = 3 ∨ n.op = 4 ∨ n.op = 5 ∨ n.op = 6 ∨ n.op = 7 ∨ n.op = 8 := by omega
  rcases hc with k | k | k | k | k | k | k | k
  · rw [E.2.2.2.2.2.2.2.2.2.2.1 k, k]; rfl
  · rw [E.2.2.2.2.2.2.2.2.2.2.2 k, k]; rfl
  · have : evN (semV v) n (b4 x) (b4 y) = (semV v).fact n.i := by unfold evN; rw [if_neg (by omega), if_neg (by omega), if_pos k]
    rw [this, hg k, k]; rfl
  · rw [E.1 k, k, B.1]; rfl
  · rw [E.2.1 k, k, B.2.1]; rfl
  · rw [E.2.2.1 k, k, B.2.2.1]; rfl
  · rw [E.2.2.2.1 k, k, B.2.2.2.1]; rfl
  · rw [E.2.2.2.2.1 k, k, B.2.2.2.2]; rfl
theorem evT_b (v m : Nat) : ∀ (t : Tr), trOk t → trAll (prN m) t → evT (semV v) t = b4 (bT (gF v) t)
  | .leaf n, ⟨_, _, _⟩, hp => evN_b v m hp false false _ (fun k => by
    show (decide (n.op = 3) && v.testBit n.i.toNat) = _
    rw [decide_eq_true k, Bool.true_and])
  | .un n a, ⟨h1, _, _, h4⟩, hp => by
    show evN (semV v) n (evT (semV v) a) 0 = _
    rw [evT_b v m a h4 hp.2]
    exact evN_b v m hp.1 _ false _ (fun k => absurd k (not_fact h1))
  | .bin n a b, ⟨h1, _, _, h4, h5⟩, hp => by
    show evN (semV v) n (evT (semV v) a) (evT (semV v) b) = _
    rw [evT_b v m a h4 hp.2.1, evT_b v m b h5 hp.2.2]
    exact evN_b v m hp.1 _ _ _ (fun k => absurd k (not_fact h1))
theorem pr_st {m : Nat} : ∀ (t : Tr), trAll (prN m) t → trAll stN t
  | .leaf _, h => ⟨h.1, by have := h.2.1; omega⟩
  | .un _ a, h => ⟨⟨h.1.1, by have := h.1.2.1; omega⟩, pr_st a h.2⟩
  | .bin _ a b, h => ⟨⟨h.1.1, by have := h.1.2.1; omega⟩, pr_st a h.2.1, pr_st b h.2.2⟩
/-- simplification keeps the truth of a propositional formula -/
theorem sim_bT (v m : Nat) {t : Tr} (h : AllOk t) (hp : trAll (prN m) t) : bT (gF v) (mapT simT t) = bT (gF v) t := by
  have h1 := sim_means (semV v) t h (pr_st t hp)
  rw [evT_b v m _ (mapT_all sim_keep t h).1 (sim_gen (prN_gen m) t h.1 hp), evT_b v m t h.1 hp] at h1
  exact b4_inj _ _ h1
/-- simplification does not make a formula longer -/
theorem sim_len {t : Tr} (h : trOk t) : (canT (mapT simT t)).length ≤ (canT t).length := by
  have hne := canT_ne t
  have g := rwP_ok (sim_rule (fun _ => True)) (q := canT t) (o := []) (canT_ops h) hne Bd.nil (fun _ _ => trivial)
  rw [canT_tree h] at g
  have h1 := g.bd.len g.ok g.rep
  have h2 := g.len
  simp only [List.length_nil, Nat.one_mul, Nat.zero_add] at h2
  omega
/-- what FromTable returns: a formula of the facts below n, with the given table, that is short enough -/
structure FromT (n t : Nat) (s : Tr) : Prop where
  all : AllOk s
  pr : trAll (prN n) s
  len : (canT s).length ≤ 111
  bit : ∀ v, bT (gF v) s = t.testBit (v % 2 ^ n)
theorem from_table {n t : Nat} (hn : n ≤ 6) (h : t < 2 ^ 2 ^ n) : FromT n t (mapT simT (expT n t)) := by
  have ha := exp_all n t (by omega)
  have hp := exp_pr n n t (Nat.le_refl _)
  exact ⟨mapT_all sim_keep _ ha, sim_gen (prN_gen n) _ ha.1 hp, Nat.le_trans (sim_len ha.1) (exp_len hn h), fun v => by rw [sim_bT v n ha hp]; exact exp_bit v n t h⟩
end Go.Proofs.Ws
/- Layer 9 as plain mathematics: a propositional formula is a tautology exactly if its table is full (BooleanFull). -/
namespace Go.Proofs.Ws
open Go
theorem mark_met {s : TS} {i j : Nat} (h : s.met.getD j false = true) : (s.mark i).met.getD j false = true := by
  show (s.met.set i true).getD j false = true
  rw [List.getD_eq_getElem?_getD, List.getElem?_set]
  by_cases e : i = j
  · subst e
    rw [if_pos rfl]
    by_cases hl : i < s.met.length
    · rw [if_pos hl]; rfl
    · rw [List.getD_eq_getElem?_getD, List.getElem?_eq_none (by omega)] at h; cases h
  · rw [if_neg e, ← List.getD_eq_getElem?_getD]; exact h
theorem StackR.grow {q : List Nd} {S : List Nat} {s s' : TS} (h : StackR q S s s') : ∀ j, s.met.getD j false = true → s'.met.getD j false = true := by
  induction h with
  | nil s => exact fun j k => k
  | skip _ _ ih => exact ih
  | visit _ _ ih => exact fun j k => ih j (mark_met k)
/-- what is on the stack is met in the end -/
theorem StackR.all {q : List Nd} {S : List Nat} {s s' : TS} (h : StackR q S s s') : (∀ i ∈ S, i < s.met.length) → (∀ i, i < s.met.length → ∀ k ∈ kids (q.getD i nd0), k < s.met.length) → ∀ i ∈ S, s'.met.getD i false = true := by
  induction h with
  | nil s => intro _ _ i hi; cases hi
  | skip h1 h2 ih =>
    intro hS hk i hi
    rcases List.mem_cons.1 hi with rfl | hi
    · exact h2.grow _ h1
    · exact ih (fun i hi => hS i (List.mem_cons_of_mem _ hi)) hk i hi
  | @visit m S s s' h1 h2 ih =>
    intro hS hk i hi
    have hl : (s.mark m).met.length = s.met.length := by show (s.met.set m true).length = _; rw [List.length_set]
    have hm := hS m List.mem_cons_self
    rcases List.mem_cons.1 hi with rfl | hi
    · exact h2.grow _ (by show (s.met.set i true).getD i false = true; rw [getB_set hm, if_pos rfl])
    · refine ih (fun j hj => ?_) (fun j hj k hk2 => ?_) i (List.mem_append.2 (.inr hi))
      · rw [hl]
        rcases List.mem_append.1 hj with hj | hj
        · exact hk m hm j hj
        · exact hS j (List.mem_cons_of_mem _ hj)
      · rw [hl] at hj ⊢; exact hk j hj k hk2
/-- in the end the operands of what is met are met -/
theorem StackR.closed {q : List Nd} {S : List Nat} {s s' : TS} (h : StackR q S s s') : (∀ i ∈ S, i < s.met.length) → (∀ i, i < s.met.length → ∀ k ∈ kids (q.getD i nd0), k < s.met.length) →
    (∀ i, s.met.getD i false = true → ∀ k ∈ kids (q.getD i nd0), s.met.getD k false = true ∨ k ∈ S) → ∀ i, s'.met.getD i false = true → ∀ k ∈ kids (q.getD i nd0), s'.met.getD k false = true := by
  induction h with
  | nil s => intro _ _ hc i hi k hk; exact (hc i hi k hk).resolve_right (by simp)
  | skip h1 h2 ih =>
    intro hS hK hc
    refine ih (fun i hi => hS i (List.mem_cons_of_mem _ hi)) hK (fun i hi k hk => ?_)
    rcases hc i hi k hk with h | h
    · exact .inl h
    · rcases List.mem_cons.1 h with rfl | h
      · exact .inl h1
      · exact .inr h
  | @visit m S s s' h1 h2 ih =>
    intro hS hK hc
    have hl : m < s.met.length := hS m List.mem_cons_self
    have hlen : (s.mark m).met.length = s.met.length := by show (s.met.set m true).length = _; rw [List.length_set]
    refine ih (fun j hj => ?_) (fun j hj k hk2 => ?_) (fun i hi k hk => ?_)
    · rw [hlen]
      rcases List.mem_append.1 hj with hj | hj
      · exact hK m hl j hj
      · exact hS j (List.mem_cons_of_mem _ hj)
    · rw [hlen] at hj ⊢; exact hK j hj k hk2
    · have hi : (s.met.set m true).getD i false = true := hi
      rw [getB_set hl] at hi
      by_cases e : m = i
      · subst e; exact .inr (List.mem_append.2 (.inl hk))
      · rw [if_neg e] at hi
        rcases hc i hi k hk with h | h
        · exact .inl (mark_met h)
        · rcases List.mem_cons.1 h with rfl | h
          · left
            show (s.met.set k true).getD k false = true
            rw [getB_set hl, if_pos rfl]
          · exact .inr (List.mem_append.2 (.inr h))
end Go.Proofs.Ws
/- Layer 9 as plain mathematics: a tautology is true whatever its atoms are; facts replaced by formulas that know them (BooleanModal). -/
namespace Go.Proofs.Ws
open Go
end Go.Proofs.Ws
/- Layer 9 as plain mathematics: the atoms of a formula as trees; as many where facts are replaced by formulas that know them (BooleanModal). -/
namespace Go.Proofs.Ws
open Go
end Go.Proofs.Ws
/- Layer 9 as plain mathematics: what the reference computes, step by step. -/
namespace Go.Proofs.Ws
open Go
theorem StackR.done {q : List Nd} {s s' : TS} (h : StackR q [] s s') : s' = s := by cases h; rfl
theorem MetOk.few {n : Nat} {s : TS} (h : MetOk n s) : s.order.length ≤ n := by
  have hsub : s.order ⊆ List.range n := fun i hi => by
    have h3 := (h.mem i).1 hi
    refine List.mem_range.2 ?_
    by_cases hl : i < n
    · exact hl
    · rw [List.getD_eq_getElem?_getD, List.getElem?_eq_none (by rw [h.len]; omega)] at h3; cases h3
  have := h.nodup.length_le_of_subset hsub
  simpa using this
end Go.Proofs.Ws
