/- Layer 6: texts joined: Eg Eh Ej Ek El. -/
import Derived.Test.YtkkkomkljpolbaaDoorNEa
import Derived.Test.YtkkkomkljpolbaaDoorNQq
/- Layer 9 as plain mathematics: the simplified formula of a truth table (FromTable). -/
namespace Go.Proofs.Ws
open Go
/-- a property of nodes that the constants and negations have -/
structure GenP (P : Nd → Prop) : Prop where
  t : P (opN 1)
  f : P (opN 2)
  n : P (opN 4)
theorem gp_not {P : Nd → Prop} (G : GenP P) {a : Tr} (h : trAll P a) : trAll P (notT a) := ⟨G.n, h⟩
/-- propositional nodes of the facts below m -/
def prN (m : Nat) (n : Nd) : Prop := 1 ≤ n.op ∧ n.op ≤ 8 ∧ (n.op = 3 → n.i.toNat < m)
theorem prN_gen (m : Nat) : GenP (prN m) := ⟨⟨by decide, by decide, fun h => absurd h (by decide)⟩, ⟨by decide, by decide, fun h => absurd h (by decide)⟩, ⟨by decide, by decide, fun h => absurd h (by decide)⟩⟩
def b4 (b : Bool) : B4 := if b = true then 15 else 0
/-- what FromTable returns: a formula of the facts below n, with the given table, that is short enough -/
structure FromT (n t : Nat) (s : Tr) : Prop where
  all : AllOk s
  pr : trAll (prN n) s
  len : (canT s).length ≤ 111
  bit : ∀ v, bT (gF v) s = t.testBit (v % 2 ^ n)
end Go.Proofs.Ws
/- Layer 9 as plain mathematics: a propositional formula is a tautology exactly if its table is full (BooleanFull). -/
namespace Go.Proofs.Ws
open Go
theorem mark_met {s : TS} {i j : Nat} (h : s.met.getD j false = true) : (s.mark i).met.getD j false = true := by
  show (s.met.set i true).getD j false = true
  rw [List.getD_eq_getElem?_getD, List.getElem?_set]
  by_cases e : i = j
  · subst e
    rw [if_pos rfl]
    by_cases hl : i < s.met.length
    · rw [if_pos hl]; rfl
    · rw [List.getD_eq_getElem?_getD, List.getElem?_eq_none (by omega)] at h; cases h
  · rw [if_neg e, ← List.getD_eq_getElem?_getD]; exact h
theorem StackR.grow {q : List Nd} {S : List Nat} {s s' : TS} (h : StackR q S s s') : ∀ j, s.met.getD j false = true → s'.met.getD j false = true := by
  induction h with
  | nil s => exact fun j k => k
  | skip _ _ ih => exact ih
  | visit _ _ ih => exact fun j k => ih j (mark_met k)
/-- what is on the stack is met in the end -/
theorem StackR.all {q : List Nd} {S : List Nat} {s s' : TS} (h : StackR q S s s') : (∀ i ∈ S, i < s.met.length) → (∀ i, i < s.met.length → ∀ k ∈ kids (q.getD i nd0), k < s.met.length) → ∀ i ∈ S, s'.met.getD i false = true := by
  induction h with
  | nil s => intro _ _ i hi; cases hi
  | skip h1 h2 ih =>
    intro hS hk i hi
    rcases List.mem_cons.1 hi with rfl | hi
    · exact h2.grow _ h1
    · exact ih (fun i hi => hS i (List.mem_cons_of_mem _ hi)) hk i hi
  | @visit m S s s' h1 h2 ih =>
    intro hS hk i hi
    have hl : (s.mark m).met.length = s.met.length := by show (s.met.set m true).length = _; rw [List.length_set]
    have hm := hS m List.mem_cons_self
    rcases List.mem_cons.1 hi with rfl | hi
    · exact h2.grow _ (by show (s.met.set i true).getD i false = true; rw [getB_set hm, if_pos rfl])
    · refine ih (fun j hj => ?_) (fun j hj k hk2 => ?_) i (List.mem_append.2 (.inr hi))
      · rw [hl]
        rcases List.mem_append.1 hj with hj | hj
        · exact hk m hm j hj
        · exact hS j (List.mem_cons_of_mem _ hj)
      · rw [hl] at hj ⊢; exact hk j hj k hk2
/-- in the end the operands of what is met are met -/
theorem StackR.closed {q : List Nd} {S : List Nat} {s s' : TS} (h : StackR q S s s') : (∀ i ∈ S, i < s.met.length) → (∀ i, i < s.met.length → ∀ k ∈ kids (q.getD i nd0), k < s.met.length) →
    (∀ i, s.met.getD i false = true → ∀ k ∈ kids (q.getD i nd0), s.met.getD k false = true ∨ k ∈ S) → ∀ i, s'.met.getD i false = true → ∀ k ∈ kids (q.getD i nd0), s'.met.getD k false = true := by
  induction h with
  | nil s => intro _ _ hc i hi k hk; exact (hc i hi k hk).resolve_right (by simp)
  | skip h1 h2 ih =>
    intro hS hK hc
    refine ih (fun i hi => hS i (List.mem_cons_of_mem _ hi)) hK (fun i hi k hk => ?_)
    rcases hc i hi k hk with h | h
    · exact .inl h
    · rcases List.mem_cons.1 h with rfl | h
      · exact .inl h1
      · exact .inr h
  | @visit m S s s' h1 h2 ih =>
    intro hS hK hc
    have hl : m < s.met.length := hS m List.mem_cons_self
    have hlen : (s.mark m).met.length = s.met.length := by show (s.met.set m true).length = _; rw [List.length_set]
    refine ih (fun j hj => ?_) (fun j hj k hk2 => ?_) (fun i hi k hk => ?_)
    · rw [hlen]
      rcases List.mem_append.1 hj with hj | hj
      · exact hK m hl j hj
      · exact hS j (List.mem_cons_of_mem _ hj)
    · rw [hlen] at hj ⊢; exact hK j hj k hk2
    · have hi : (s.met.set m true).getD i false = true := hi
      rw [getB_set hl] at hi
      by_cases e : m = i
      · subst e; exact .inr (List.mem_append.2 (.inl hk))
      · rw [if_neg e] at hi
        rcases hc i hi k hk with h | h
        · exact .inl (mark_met h)
        · rcases List.mem_cons.1 h with rfl | h
          · left
            show (s.met.set k true).getD k false = true
            rw [getB_set hl, if_pos rfl]
          · exact .inr (List.mem_append.2 (.inr h))
/-- all nodes met from the last one -/
def metAll (q : List Nd) : TS := meetF q q.length (q.length - 1) ⟨List.replicate q.length false, []⟩
theorem met_all {q : List Nd} (hq : opsL q) (hne : q ≠ []) : MetOk q.length (metAll q) ∧ (metAll q).met.getD (q.length - 1) false = true ∧ ∀ i, (metAll q).met.getD i false = true → ∀ k ∈ kids (q.getD i nd0), (metAll q).met.getD k false = true := by
  have hp := List.length_pos_iff.2 hne
  have hs : StackR q [q.length - 1] ⟨List.replicate q.length false, []⟩ (metAll q) := stack_meet hq q.length (q.length - 1) (by omega) (by omega) [] _ _ (.nil _)
  have h0 : ∀ j, (List.replicate q.length false).getD j false = false := by
    intro j
    rw [List.getD_eq_getElem?_getD, List.getElem?_replicate]; split <;> rfl
  have h1 : ∀ i ∈ [q.length - 1], i < (List.replicate q.length false).length := fun i hi => by rw [List.mem_singleton.1 hi, List.length_replicate]; omega
  have h2 : ∀ i, i < (List.replicate q.length false).length → ∀ k ∈ kids (q.getD i nd0), k < (List.replicate q.length false).length := fun i hi k hk => by
    rw [List.length_replicate] at hi ⊢
    have := kids_lt hq hi k hk
    omega
  exact ⟨meet_ok hq _ _ (by omega) (by omega) _ (met_start _), hs.all h1 h2 _ List.mem_cons_self, hs.closed h1 h2 (fun i hi => by rw [h0] at hi; cases hi)⟩
/-- each node of a propositional canonical list is met -/
theorem met_prop {t : Tr} (ht : trOk t) (hp : ∀ n ∈ canT t, n.op ≤ 8) : ∀ m k, (canT t).length - k ≤ m → k < (canT t).length → (metAll (canT t)).met.getD k false = true := by
  have hq := canT_ops ht
  obtain ⟨_, hl, hc⟩ := met_all hq (canT_ne t)
  intro m
  induction m with
  | zero => intro k h1 h2; omega
  | succ m ih =>
    intro k h1 h2
    by_cases e : k = (canT t).length - 1
    · rw [e]; exact hl
    · obtain ⟨j, hj, hjl, hu⟩ := canT_used ht (k := k) (by omega)
      have hmj := ih j (by omega) hjl
      have h8 : ((canT t).getD j nd0).op ≤ 8 := hp _ (by rw [List.getD_eq_getElem?_getD, List.getElem?_eq_getElem hjl]; exact List.getElem_mem _)
      refine hc j hmj k ?_
      generalize hN : (canT t).getD j nd0 = N at hu h8
      rcases hu with ⟨u, e⟩ | ⟨u, e⟩
      · have h4 : 4 ≤ N.op := by
          have := u
          unfold usesX at this
          simp only [Bool.and_eq_true, decide_eq_true_eq] at this
          exact this.1
        unfold kids
        by_cases h : N.op = 4
        · rw [if_pos h, e, Int.toNat_natCast]; exact List.mem_cons_self
        · rw [if_neg h, if_pos ⟨by omega, h8⟩, e, Int.toNat_natCast]; exact List.mem_cons_self
      · have h5 : 5 ≤ N.op := by
          have := u
          unfold usesY at this
          simp only [Bool.or_eq_true, Bool.and_eq_true, decide_eq_true_eq] at this
          omega
        unfold kids
        rw [if_neg (by omega), if_pos ⟨h5, h8⟩, e, Int.toNat_natCast]
        exact List.mem_cons_of_mem _ List.mem_cons_self
theorem atoms_mem {q : List Nd} (hq : opsL q) (hne : q ≠ []) (i : Nat) : i ∈ atomsOf q ↔ (metAll q).met.getD i false = true ∧ atomOp (q.getD i nd0).op = true := by
  have hm := (met_all hq hne).1
  show i ∈ List.filter _ (metAll q).order ↔ _
  rw [List.mem_filter, hm.mem i]
/-- of a propositional formula the atoms are its facts -/
theorem atoms_prop {t : Tr} (ht : trOk t) (hp : ∀ n ∈ canT t, n.op ≤ 8) {i : Nat} (hi : i < (canT t).length) : i ∈ atomsOf (canT t) ↔ ((canT t).getD i nd0).op = 3 := by
  have h8 : ((canT t).getD i nd0).op ≤ 8 := hp _ (by rw [List.getD_eq_getElem?_getD, List.getElem?_eq_getElem hi]; exact List.getElem_mem _)
  rw [atoms_mem (canT_ops ht) (canT_ne t)]
  unfold atomOp
  constructor
  · rintro ⟨_, h⟩
    simp only [Bool.or_eq_true, decide_eq_true_eq] at h
    omega
  · intro h
    exact ⟨met_prop ht hp _ i (Nat.le_refl _) hi, by rw [h]; rfl⟩
theorem tabL_lt (p : Nat → Bool) (m : Nat) : tabL p m < 2 ^ m := by
  apply Nat.lt_pow_two_of_testBit
  intro i hi
  rw [tabL_bit]
  simp; omega
/-- true at all valuations of its atoms exactly if at all of the six facts -/
theorem full_iff {t : Tr} (ht : AllOk t) (hp : ∀ n ∈ canT t, n.op ≤ 8) (h6 : ∀ n ∈ canT t, n.op = 3 → n.i.toNat < 6) (hfld : ∀ n ∈ canT t, fldOk n) (j : Nat) :
    (∀ facts, facts < 2 ^ (atomsOf (canT t)).length → (bL (canT t) (gA (atomsOf (canT t)) facts) (canT t).length).getD j false = true) ↔ ∀ v, v < 64 → (bL (canT t) (factB (canT t) v) (canT t).length).getD j false = true := by
  have hq := canT_ops ht.1
  have hget : ∀ i, i < (canT t).length → (canT t).getD i nd0 ∈ canT t := fun i hi => by
    rw [List.getD_eq_getElem?_getD, List.getElem?_eq_getElem hi]; exact List.getElem_mem _
  constructor
  · intro h v hv
    have := h (tabL (fun k => v.testBit ((canT t).getD ((atomsOf (canT t)).getD k 0) nd0).i.toNat) (atomsOf (canT t)).length) (tabL_lt _ _)
    rw [bL_take (h := factB (canT t) v) _ (fun i hi => ?_)] at this
    · exact this
    · unfold gA factB
      by_cases h3 : ((canT t).getD i nd0).op = 3
      · have hm := (atoms_prop ht.1 hp hi).2 h3
        have hx := List.idxOf_lt_length_of_mem hm
        rw [if_pos hm, tabL_bit, decide_eq_true hx, decide_eq_true h3, Bool.true_and, Bool.true_and]
        have e : (atomsOf (canT t)).getD ((atomsOf (canT t)).idxOf i) 0 = i := by
          rw [List.getD_eq_getElem?_getD, List.getElem?_eq_getElem hx]; simp
        rw [e]
      · rw [if_neg (fun k => h3 ((atoms_prop ht.1 hp hi).1 k)), decide_eq_false h3, Bool.false_and]
  · intro h facts hf
    have := h (tabL (fun I => facts.testBit ((atomsOf (canT t)).idxOf ((canT t).idxOf ⟨3, (I : Int), 0, 0, 0, 0⟩))) 6) (tabL_lt _ 6)
    rw [bL_take (h := gA (atomsOf (canT t)) facts) _ (fun i hi => ?_)] at this
    · exact this
    · unfold gA factB
      by_cases h3 : ((canT t).getD i nd0).op = 3
      · have hm := (atoms_prop ht.1 hp hi).2 h3
        have hx0 := hq i hi
        have hb : bare ((canT t).getD i nd0) = (canT t).getD i nd0 := by
          have e1 : ((canT t).getD i nd0).x = 0 := by have := hx0.1; rw [if_neg (by rw [h3]; decide)] at this; exact this
          have e2 : ((canT t).getD i nd0).y = 0 := by have := hx0.2; rw [if_neg (by rw [h3]; decide)] at this; exact this
          exact (bare_with _ _ _ e1 e2).symm
        obtain ⟨e, e0, _⟩ := fact_node (hfld _ (hget i hi)) hb h3
        have hi6 := h6 _ (hget i hi) h3
        rw [if_pos hm, tabL_bit, decide_eq_true hi6, decide_eq_true h3, Bool.true_and, Bool.true_and, Int.toNat_of_nonneg e0]
        have e4 : (canT t).idxOf ⟨3, ((canT t).getD i nd0).i, 0, 0, 0, 0⟩ = i := by
          rw [← e, List.getD_eq_getElem?_getD, List.getElem?_eq_getElem hi]
          exact List.Nodup.idxOf_getElem (canT_nodup t) i hi
        rw [e4]
      · rw [if_neg (fun k => h3 ((atoms_prop ht.1 hp hi).1 k)), decide_eq_false h3, Bool.false_and]
end Go.Proofs.Ws
/- Layer 9 as plain mathematics: a tautology is true whatever its atoms are; facts replaced by formulas that know them (BooleanModal). -/
namespace Go.Proofs.Ws
open Go
/-- a formula that is true whatever its atoms are -/
def tautT (t : Tr) : Prop := ∀ g : Tr → Bool, bT g t = true
/-- the truth of what is met depends only on the atoms that are met -/
theorem met_truth {q : List Nd} (hq : opsL q) (hne : q ≠ []) (hk : ∀ n ∈ q, known n.op = true) {g h : Nat → Bool} (e : ∀ i ∈ atomsOf q, g i = h i) :
    ∀ m i, i < m → i < q.length → (metAll q).met.getD i false = true → ∀ k, i < k → k ≤ q.length → (bL q g k).getD i false = (bL q h k).getD i false := by
  intro m
  induction m with
  | zero => intro i hi; omega
  | succ m ih =>
    intro i hi hl hm k hik hkl
    -- the value at a place does not change behind it
    have stay : ∀ (g : Nat → Bool) (k : Nat), i < k → (bL q g k).getD i false = (bL q g (i + 1)).getD i false := by
      intro g k
      induction k with
      | zero => intro h; omega
      | succ k ihk =>
        intro h
        by_cases e : k = i
        · rw [e]
        · show (bL q g k ++ [_]).getD i false = _
          rw [snocB, bL_len, if_neg (by omega)]
          exact ihk (by omega)
    rw [stay g k hik, stay h k hik]
    have last : ∀ g : Nat → Bool, (bL q g (i + 1)).getD i false = bNode (q.getD i nd0).op ((bL q g i).getD (q.getD i nd0).x.toNat false) ((bL q g i).getD (q.getD i nd0).y.toNat false) (g i) := by
      intro g
      show (bL q g i ++ [_]).getD i false = _
      rw [snocB, bL_len, if_pos rfl]
    rw [last g, last h]
    obtain ⟨_, _, hc⟩ := met_all hq hne
    have hc := hc i hm
    have hop := hq i hl
    have hkn := hk _ (show q.getD i nd0 ∈ q by rw [List.getD_eq_getElem?_getD, List.getElem?_eq_getElem hl]; exact List.getElem_mem _)
    have ha : atomOp (q.getD i nd0).op = true → g i = h i := fun k => e i ((atoms_mem hq hne i).2 ⟨hm, k⟩)
    generalize hN : q.getD i nd0 = N at hc hop hkn ha
    by_cases h4 : N.op = 4
    · have hx := opsOk_x hop (by rw [h4]; decide)
      have hmx : (metAll q).met.getD N.x.toNat false = true := hc _ (by unfold kids; rw [if_pos h4]; exact List.mem_cons_self)
      have := ih N.x.toNat (by omega) (by omega) hmx i hx.2 (by omega)
      rw [this, h4]; rfl
    by_cases h5 : 5 ≤ N.op ∧ N.op ≤ 8
    · have hy : usesY N.op = true := by
        unfold usesY
        simp only [Bool.or_eq_true, Bool.and_eq_true, decide_eq_true_eq]
        omega
      have hx := opsOk_x hop (usesY_X hy)
      have hy2 := opsOk_y hop hy
      have hmx : (metAll q).met.getD N.x.toNat false = true := hc _ (by unfold kids; rw [if_neg h4, if_pos h5]; exact List.mem_cons_self)
      have hmy : (metAll q).met.getD N.y.toNat false = true := hc _ (by unfold kids; rw [if_neg h4, if_pos h5]; exact List.mem_cons_of_mem _ List.mem_cons_self)
      rw [ih N.x.toNat (by omega) (by omega) hmx i hx.2 (by omega), ih N.y.toNat (by omega) (by omega) hmy i hy2.2 (by omega)]
      have hc : N.op = 5 ∨ N.op = 6 ∨ N.op = 7 ∨ N.op = 8 := by omega
      rcases hc with k | k | k | k <;> (rw [k]; rfl)
    · have h1 : 1 ≤ N.op := by
        unfold known at hkn
        simp only [Bool.and_eq_true, decide_eq_true_eq] at hkn
        exact hkn.1
      have hnone : ∀ x y x' y' b, bNode N.op x y b = bNode N.op x' y' b := by
        intro x y x' y' b
        unfold bNode
        simp only [if_neg h4, if_neg (show ¬ N.op = 5 by omega), if_neg (show ¬ N.op = 6 by omega), if_neg (show ¬ N.op = 7 by omega), if_neg (show ¬ N.op = 8 by omega)]
      by_cases h12 : N.op = 1 ∨ N.op = 2
      · rcases h12 with k | k <;> (rw [k]; rfl)
      · have : atomOp N.op = true := by
          unfold atomOp
          simp only [Bool.or_eq_true, decide_eq_true_eq]
          omega
        rw [ha this]
        exact hnone _ _ _ _ _
/-- true at all valuations of its atoms: true whatever they are -/
theorem taut_tree {t : Tr} (ht : trOk t) (hk : ∀ n ∈ canT t, known n.op = true) :
    (∀ facts, facts < 2 ^ (atomsOf (canT t)).length → (bL (canT t) (gA (atomsOf (canT t)) facts) (canT t).length).getD ((canT t).length - 1) false = true) ↔ tautT t := by
  have hq := canT_ops ht
  have hne := canT_ne t
  have hp := List.length_pos_iff.2 hne
  have hroot := (met_all hq hne).2.1
  have htree : ∀ g : Tr → Bool, (bL (canT t) (fun k => g (treeAt (canT t) k)) (canT t).length).getD ((canT t).length - 1) false = bT g t := by
    intro g
    rw [bL_tree hq g _ (Nat.le_refl _) _ (by omega), canT_tree ht]
  constructor
  · intro h g
    rw [← htree g]
    have := h (tabL (fun k => g (treeAt (canT t) ((atomsOf (canT t)).getD k 0))) (atomsOf (canT t)).length) (tabL_lt _ _)
    rw [← this]
    refine met_truth hq hne hk (fun i hi => ?_) _ _ (Nat.lt_succ_self _) (by omega) hroot _ (by omega) (Nat.le_refl _)
    have hx := List.idxOf_lt_length_of_mem hi
    unfold gA
    rw [if_pos hi, tabL_bit, decide_eq_true hx, Bool.true_and]
    have e : (atomsOf (canT t)).getD ((atomsOf (canT t)).idxOf i) 0 = i := by
      rw [List.getD_eq_getElem?_getD, List.getElem?_eq_getElem hx]; simp
    rw [e]
  · intro h facts _
    have hb : Bd (canT t) := ⟨canT_nodup t, hq⟩
    -- the place of a tree
    let pl : Tr → Nat := fun s => (finT s (canT t)).1
    have hpl : ∀ i, i < (canT t).length → pl (treeAt (canT t) i) = i := by
      intro i hi
      have r := rep_of_tree hq (i + 1) i (by omega) hi
      show (finT (treeAt (canT t) i) (canT t)).1 = i
      rw [finT_old hb.nodup _ _ r]
    have := htree (fun s => gA (atomsOf (canT t)) facts (pl s))
    rw [h] at this
    rw [← this]
    refine met_truth hq hne hk (fun i hi => ?_) _ _ (Nat.lt_succ_self _) (by omega) hroot _ (by omega) (Nat.le_refl _)
    show _ = gA (atomsOf (canT t)) facts (pl (treeAt (canT t) i))
    rw [hpl i (atoms_lt hq hne i hi).1]
/-- facts replaced by formulas that know them -/
def knR (a : Int) (n : Nd) (x y : Tr) : Tr := if n.op = 3 then .un ⟨9, a, 0, 0, 0, 0⟩ (.leaf n) else mkT n x y
theorem knR_truth (a : Int) (g : Tr → Bool) : ∀ (t : Tr), trOk t → trAll (fun n => 1 ≤ n.op ∧ n.op ≤ 8) t → bT g (mapT (knR a) t) = bT (fun s => g (.un ⟨9, a, 0, 0, 0, 0⟩ s)) t
  | .leaf n, ⟨h1, h2, _⟩, hp => by
    show bT g (knR a n noT noT) = bNode n.op false false _
    have hp : 1 ≤ n.op ∧ n.op ≤ 8 := hp
    have h4 : ¬ 4 ≤ n.op := by
      intro k
      unfold usesX at h1
      simp only [Bool.and_eq_false_iff, decide_eq_false_iff_not] at h1
      omega
    unfold knR
    by_cases h3 : n.op = 3
    · rw [if_pos h3, h3]; rfl
    · rw [if_neg h3]
      unfold mkT
      rw [if_neg (by rw [h2]; decide), if_neg (by rw [h1]; decide)]
      have hc : n.op = 1 ∨ n.op = 2 := by omega
      show bNode n.op false false _ = _
      rcases hc with k | k <;> (rw [k]; rfl)
  | .un n b, ⟨h1, h2, _, h5⟩, hp => by
    have ih := knR_truth a g b h5 hp.2
    show bT g (knR a n (mapT (knR a) b) noT) = bNode n.op _ false _
    have h3 := not_fact h1
    unfold knR
    rw [if_neg h3, mapT_mk_un h1 h2]
    show bNode n.op (bT g (mapT (knR a) b)) false _ = _
    rw [ih]
    have hc : n.op = 4 := by
      have := hp.1
      unfold usesX at h1
      unfold usesY at h2
      simp only [Bool.and_eq_true, decide_eq_true_eq] at h1
      simp only [Bool.or_eq_false_iff, Bool.and_eq_false_iff, decide_eq_false_iff_not] at h2
      omega
    rw [hc]; rfl
  | .bin n b c, ⟨h1, h2, _, h5, h7⟩, hp => by
    have ih1 := knR_truth a g b h5 hp.2.1
    have ih2 := knR_truth a g c h7 hp.2.2
    show bT g (knR a n (mapT (knR a) b) (mapT (knR a) c)) = bNode n.op _ _ _
    have h3 := not_fact h1
    unfold knR
    rw [if_neg h3, mapT_mk_bin h2]
    show bNode n.op (bT g (mapT (knR a) b)) (bT g (mapT (knR a) c)) _ = _
    rw [ih1, ih2]
    have hc : n.op = 5 ∨ n.op = 6 ∨ n.op = 7 ∨ n.op = 8 := by
      have := hp.1
      unfold usesY at h2
      simp only [Bool.or_eq_true, Bool.and_eq_true, decide_eq_true_eq] at h2
      omega
    rcases hc with k | k | k | k <;> (rw [k]; rfl)
/-- it remains a tautology, or none -/
theorem modal_taut (a : Int) {t : Tr} (ht : trOk t) (hp : trAll (fun n => 1 ≤ n.op ∧ n.op ≤ 8) t) : tautT (mapT (knR a) t) ↔ tautT t := by
  constructor
  · intro h g
    have := h (fun s => match s with | .un _ b => g b | s => g s)
    rw [knR_truth a _ t ht hp] at this
    exact this
  · intro h g
    rw [knR_truth a g t ht hp]
    exact h _
/-- an excluded middle is a tautology -/
theorem middle_taut (t : Tr) : tautT (jT 6 t (notT t)) := fun g => by
  rw [bT_or, bT_not]
  cases bT g t <;> rfl
end Go.Proofs.Ws
/- Layer 9 as plain mathematics: the atoms of a formula as trees; as many where facts are replaced by formulas that know them (BooleanModal). -/
namespace Go.Proofs.Ws
open Go
/-- the atoms of a tree: what is reached through propositional operators -/
def pAt : Tr → Tr → Prop
  | .leaf n, s => atomOp n.op = true ∧ s = .leaf n
  | .un n a, s => if n.op = 4 then pAt a s else atomOp n.op = true ∧ s = .un n a
  | .bin n a b, s => if 5 ≤ n.op ∧ n.op ≤ 8 then pAt a s ∨ pAt b s else atomOp n.op = true ∧ s = .bin n a b
theorem pAt_kid {q : List Nd} (hq : opsL q) {i : Nat} (hi : i < q.length) {k : Nat} (hk : k ∈ kids (q.getD i nd0)) {s : Tr} (h : pAt (treeAt q k) s) : pAt (treeAt q i) s := by
  rw [treeAt_eq hq hi]
  unfold kids at hk
  generalize q.getD i nd0 = N at hk
  by_cases h4 : N.op = 4
  · rw [if_pos h4, List.mem_singleton] at hk
    rw [if_neg (by rw [h4]; decide), if_pos (by rw [h4]; decide)]
    show if (bare N).op = 4 then pAt (treeAt q N.x.toNat) s else _
    rw [if_pos (show (bare N).op = 4 from h4), ← hk]; exact h
  · rw [if_neg h4] at hk
    by_cases h5 : 5 ≤ N.op ∧ N.op ≤ 8
    · have hy : usesY N.op = true := by
        unfold usesY
        simp only [Bool.or_eq_true, Bool.and_eq_true, decide_eq_true_eq]
        omega
      rw [if_pos h5] at hk
      rw [if_pos hy]
      show if 5 ≤ (bare N).op ∧ (bare N).op ≤ 8 then pAt (treeAt q N.x.toNat) s ∨ pAt (treeAt q N.y.toNat) s else _
      rw [if_pos (show 5 ≤ (bare N).op ∧ (bare N).op ≤ 8 from h5)]
      rcases List.mem_cons.1 hk with e | hk
      · rw [← e]; exact .inl h
      · rw [← List.mem_singleton.1 hk]; exact .inr h
    · rw [if_neg h5] at hk; cases hk
/-- only what is reached is met -/
theorem StackR.reach {q : List Nd} (hq : opsL q) {t : Tr} {S : List Nat} {s s' : TS} (h : StackR q S s s') :
    (∀ i ∈ S, i < q.length ∧ ∀ r, pAt (treeAt q i) r → pAt t r) → (∀ i, s.met.getD i false = true → ∀ r, pAt (treeAt q i) r → pAt t r) → ∀ i, s'.met.getD i false = true → ∀ r, pAt (treeAt q i) r → pAt t r := by
  induction h with
  | nil s => exact fun _ h => h
  | skip _ _ ih => exact fun hS h => ih (fun i hi => hS i (List.mem_cons_of_mem _ hi)) h
  | @visit m S s s' h1 h2 ih =>
    intro hS h
    have hm := hS m List.mem_cons_self
    refine ih (fun i hi => ?_) (fun i hi => ?_)
    · rcases List.mem_append.1 hi with hi | hi
      · exact ⟨Nat.lt_trans (kids_lt hq hm.1 i hi) hm.1, fun r hr => hm.2 r (pAt_kid hq hm.1 hi hr)⟩
      · exact hS i (List.mem_cons_of_mem _ hi)
    · have hi : (s.met.set m true).getD i false = true := hi
      by_cases e : m = i
      · rw [← e]; exact hm.2
      · rw [List.getD_eq_getElem?_getD, List.getElem?_set, if_neg e, ← List.getD_eq_getElem?_getD] at hi
        exact h i hi
theorem pAt_self {q : List Nd} (hq : opsL q) {i : Nat} (hi : i < q.length) (h : atomOp (q.getD i nd0).op = true) : pAt (treeAt q i) (treeAt q i) := by
  rw [treeAt_eq hq hi]
  generalize q.getD i nd0 = N at h
  have hn : N.op = 3 ∨ 8 < N.op := by
    unfold atomOp at h
    simpa using h
  by_cases hy : usesY N.op = true
  · rw [if_pos hy]
    show if 5 ≤ N.op ∧ N.op ≤ 8 then _ else atomOp N.op = true ∧ _
    rw [if_neg (by omega)]; exact ⟨h, rfl⟩
  · rw [if_neg hy]
    by_cases hx : usesX N.op = true
    · rw [if_pos hx]
      show if N.op = 4 then _ else atomOp N.op = true ∧ _
      rw [if_neg (by omega)]; exact ⟨h, rfl⟩
    · rw [if_neg hx]; exact ⟨h, rfl⟩
/-- the atoms of a met node's tree are among those met -/
theorem pAt_met {q : List Nd} (hq : opsL q) (hne : q ≠ []) (hk : ∀ n ∈ q, known n.op = true) : ∀ m i, i < m → i < q.length → (metAll q).met.getD i false = true → ∀ s, pAt (treeAt q i) s → ∃ j ∈ atomsOf q, treeAt q j = s := by
  intro m
  induction m with
  | zero => intro i hi; omega
  | succ m ih =>
    intro i hi hl hm s hs
    have hc := (met_all hq hne).2.2 i hm
    have hop := hq i hl
    have hkn := hk _ (show q.getD i nd0 ∈ q by rw [List.getD_eq_getElem?_getD, List.getElem?_eq_getElem hl]; exact List.getElem_mem _)
    by_cases ha : atomOp (q.getD i nd0).op = true
    · refine ⟨i, (atoms_mem hq hne i).2 ⟨hm, ha⟩, ?_⟩
      have hself := treeAt_eq hq hl
      rw [hself] at hs ⊢
      generalize q.getD i nd0 = N at ha hs
      have hn : N.op = 3 ∨ 8 < N.op := by unfold atomOp at ha; simpa using ha
      by_cases hy : usesY N.op = true
      · rw [if_pos hy] at hs ⊢
        have hs : if 5 ≤ N.op ∧ N.op ≤ 8 then _ else atomOp N.op = true ∧ _ := hs
        rw [if_neg (by omega)] at hs; exact hs.2.symm
      · rw [if_neg hy] at hs ⊢
        by_cases hx : usesX N.op = true
        · rw [if_pos hx] at hs ⊢
          have hs : if N.op = 4 then _ else atomOp N.op = true ∧ _ := hs
          rw [if_neg (by omega)] at hs; exact hs.2.symm
        · rw [if_neg hx] at hs ⊢; exact hs.2.symm
    · have hself := treeAt_eq hq hl
      rw [hself] at hs
      generalize hN : q.getD i nd0 = N at ha hs hc hop hkn
      have hn : N.op ≠ 3 ∧ ¬ 8 < N.op := by
        unfold atomOp at ha
        simp only [Bool.or_eq_true, decide_eq_true_eq, not_or] at ha
        exact ha
      by_cases h4 : N.op = 4
      · have hx := opsOk_x hop (by rw [h4]; decide)
        rw [if_neg (by rw [h4]; decide), if_pos (by rw [h4]; decide)] at hs
        have hs : if N.op = 4 then pAt (treeAt q N.x.toNat) s else _ := hs
        rw [if_pos h4] at hs
        exact ih _ (by omega) (by omega) (hc _ (by unfold kids; rw [if_pos h4]; exact List.mem_cons_self)) s hs
      by_cases h5 : 5 ≤ N.op ∧ N.op ≤ 8
      · have hy : usesY N.op = true := by
          unfold usesY
          simp only [Bool.or_eq_true, Bool.and_eq_true, decide_eq_true_eq]
          omega
        have hx := opsOk_x hop (usesY_X hy)
        have hy2 := opsOk_y hop hy
        rw [if_pos hy] at hs
        have hs : if 5 ≤ N.op ∧ N.op ≤ 8 then pAt (treeAt q N.x.toNat) s ∨ pAt (treeAt q N.y.toNat) s else _ := hs
        rw [if_pos h5] at hs
        rcases hs with hs | hs
        · exact ih _ (by omega) (by omega) (hc _ (by unfold kids; rw [if_neg h4, if_pos h5]; exact List.mem_cons_self)) s hs
        · exact ih _ (by omega) (by omega) (hc _ (by unfold kids; rw [if_neg h4, if_pos h5]; exact List.mem_cons_of_mem _ List.mem_cons_self)) s hs
      · exfalso
        have hx : ¬ usesX N.op = true := by
          unfold usesX
          unfold known at hkn
          simp only [Bool.and_eq_true, decide_eq_true_eq] at hkn ⊢
          omega
        have hy : ¬ usesY N.op = true := fun k => hx (usesY_X k)
        rw [if_neg hy, if_neg hx] at hs
        exact ha hs.1
/-- the atoms of a canonical list are those of its tree -/
theorem atoms_tree {t : Tr} (ht : trOk t) (hk : ∀ n ∈ canT t, known n.op = true) (s : Tr) : pAt t s ↔ ∃ j ∈ atomsOf (canT t), treeAt (canT t) j = s := by
  have hq := canT_ops ht
  have hne := canT_ne t
  have hp := List.length_pos_iff.2 hne
  constructor
  · intro h
    refine pAt_met hq hne hk _ _ (Nat.lt_succ_self _) (by omega) (met_all hq hne).2.1 s ?_
    rw [canT_tree ht]; exact h
  · rintro ⟨j, hj, rfl⟩
    have hs : StackR (canT t) [(canT t).length - 1] ⟨List.replicate (canT t).length false, []⟩ (metAll (canT t)) := stack_meet hq _ _ (by omega) (by omega) [] _ _ (.nil _)
    have h0 : ∀ j, (List.replicate (canT t).length false).getD j false = false := by
      intro j
      rw [List.getD_eq_getElem?_getD, List.getElem?_replicate]; split <;> rfl
    obtain ⟨h1, h2⟩ := (atoms_mem hq hne j).1 hj
    refine hs.reach hq (t := t) (fun i hi => ?_) (fun i hi => by rw [h0] at hi; cases hi) j h1 _ (pAt_self hq (atoms_lt hq hne j hj).1 h2)
    rw [List.mem_singleton.1 hi]
    exact ⟨by omega, fun r hr => by rw [canT_tree ht] at hr; exact hr⟩
def knT (a : Int) (s : Tr) : Tr := .un ⟨9, a, 0, 0, 0, 0⟩ s
/-- the atoms of the formula that knows the facts -/
theorem kn_atoms (a : Int) : ∀ (t : Tr), trOk t → trAll (fun n => 1 ≤ n.op ∧ n.op ≤ 8) t → ∀ s, pAt (mapT (knR a) t) s → ∃ r, pAt t r ∧ s = knT a r
  | .leaf n, ⟨h1, h2, _⟩, hp, s, hs => by
    have hp : 1 ≤ n.op ∧ n.op ≤ 8 := hp
    have hs : pAt (knR a n noT noT) s := hs
    unfold knR at hs
    by_cases h3 : n.op = 3
    · rw [if_pos h3] at hs
      have hs : if (9 : Int) = 4 then _ else atomOp 9 = true ∧ s = knT a (.leaf n) := hs
      rw [if_neg (by decide)] at hs
      exact ⟨.leaf n, ⟨by rw [h3]; rfl, rfl⟩, hs.2⟩
    · rw [if_neg h3] at hs
      unfold mkT at hs
      rw [if_neg (by rw [h2]; decide), if_neg (by rw [h1]; decide)] at hs
      have ha := hs.1
      unfold atomOp at ha
      simp only [Bool.or_eq_true, decide_eq_true_eq] at ha
      omega
  | .un n b, ⟨h1, h2, _, h5⟩, hp, s, hs => by
    have ih := kn_atoms a b h5 hp.2
    have h3 := not_fact h1
    have hc : n.op = 4 := by
      have := hp.1
      unfold usesX at h1
      unfold usesY at h2
      simp only [Bool.and_eq_true, decide_eq_true_eq] at h1
      simp only [Bool.or_eq_false_iff, Bool.and_eq_false_iff, decide_eq_false_iff_not] at h2
      omega
    have hs : pAt (knR a n (mapT (knR a) b) noT) s := hs
    unfold knR at hs
    rw [if_neg h3, mapT_mk_un h1 h2] at hs
    have hs : if n.op = 4 then pAt (mapT (knR a) b) s else _ := hs
    rw [if_pos hc] at hs
    obtain ⟨r, h6, h7⟩ := ih s hs
    exact ⟨r, by show if n.op = 4 then pAt b r else _; rw [if_pos hc]; exact h6, h7⟩
  | .bin n b c, ⟨h1, h2, _, h5, h7⟩, hp, s, hs => by
    have ih1 := kn_atoms a b h5 hp.2.1
    have ih2 := kn_atoms a c h7 hp.2.2
    have h3 := not_fact h1
    have hc : 5 ≤ n.op ∧ n.op ≤ 8 := by
      have := hp.1
      unfold usesY at h2
      simp only [Bool.or_eq_true, Bool.and_eq_true, decide_eq_true_eq] at h2
      omega
    have hs : pAt (knR a n (mapT (knR a) b) (mapT (knR a) c)) s := hs
    unfold knR at hs
    rw [if_neg h3, mapT_mk_bin h2] at hs
    have hs : if 5 ≤ n.op ∧ n.op ≤ 8 then pAt (mapT (knR a) b) s ∨ pAt (mapT (knR a) c) s else _ := hs
    rw [if_pos hc] at hs
    rcases hs with hs | hs
    · obtain ⟨r, h8, h9⟩ := ih1 s hs
      exact ⟨r, by show if 5 ≤ n.op ∧ n.op ≤ 8 then pAt b r ∨ pAt c r else _; rw [if_pos hc]; exact .inl h8, h9⟩
    · obtain ⟨r, h8, h9⟩ := ih2 s hs
      exact ⟨r, by show if 5 ≤ n.op ∧ n.op ≤ 8 then pAt b r ∨ pAt c r else _; rw [if_pos hc]; exact .inr h8, h9⟩
theorem atoms_trees_nodup {q : List Nd} (hb : Bd q) (hne : q ≠ []) : ((atomsOf q).map (treeAt q)).Nodup := by
  rw [List.nodup_iff_pairwise_ne, List.pairwise_map]
  refine List.Pairwise.imp_of_mem ?_ (List.nodup_iff_pairwise_ne.1 (atoms_nodup hb.ops hne))
  intro i j hi hj hn he
  have hi := (atoms_lt hb.ops hne i hi).1
  have hj := (atoms_lt hb.ops hne j hj).1
  have r1 := rep_of_tree hb.ops (i + 1) i (by omega) hi
  have r2 := rep_of_tree hb.ops (j + 1) j (by omega) hj
  rw [← he] at r2
  exact hn (hb.inj r1 r2)
/-- not more atoms -/
theorem kn_few (a : Int) {t : Tr} (ht : trOk t) (hk : ∀ n ∈ canT t, known n.op = true) (hp : trAll (fun n => 1 ≤ n.op ∧ n.op ≤ 8) t) (ht2 : trOk (mapT (knR a) t)) (hk2 : ∀ n ∈ canT (mapT (knR a) t), known n.op = true) :
    (atomsOf (canT (mapT (knR a) t))).length ≤ (atomsOf (canT t)).length := by
  have key := len_sub ((atomsOf (canT (mapT (knR a) t))).map (treeAt (canT (mapT (knR a) t)))) (((atomsOf (canT t)).map (treeAt (canT t))).map (knT a))
    (atoms_trees_nodup ⟨canT_nodup _, canT_ops ht2⟩ (canT_ne _)) (fun s hs => by
      obtain ⟨j, hj, rfl⟩ := List.mem_map.1 hs
      obtain ⟨r, h1, h2⟩ := kn_atoms a t ht hp _ ((atoms_tree ht2 hk2 _).2 ⟨j, hj, rfl⟩)
      obtain ⟨i, hi, e⟩ := (atoms_tree ht hk r).1 h1
      rw [h2, ← e]
      exact List.mem_map.2 ⟨_, List.mem_map.2 ⟨i, hi, rfl⟩, rfl⟩)
  rw [List.length_map, List.length_map, List.length_map] at key
  exact key
end Go.Proofs.Ws
/- Layer 9 as plain mathematics: what the reference computes, step by step. -/
namespace Go.Proofs.Ws
open Go
theorem tree_inj {q : List Nd} (hb : Bd q) {i j : Nat} (hi : i < q.length) (hj : j < q.length) (h : treeAt q i = treeAt q j) : i = j := by
  have r1 := rep_of_tree hb.ops (i + 1) i (by omega) hi
  have r2 := rep_of_tree hb.ops (j + 1) j (by omega) hj
  rw [← h] at r2
  exact hb.inj r1 r2
/-- the number of a node's atom among the first k, or -1 -/
def atN (ats : List Nat) (i k : Nat) : Int := if i ∈ ats.take k then ((ats.idxOf i : Nat) : Int) else -1
theorem atN_zero (ats : List Nat) (i : Nat) : atN ats i 0 = -1 := rfl
theorem atN_hit {ats : List Nat} (hd : ats.Nodup) {i k : Nat} (hk : k < ats.length) (h : ats.getD k 0 = i) : atN ats i (k + 1) = (k : Int) := by
  have e : ats[k] = i := by rw [List.getD_eq_getElem?_getD, List.getElem?_eq_getElem hk] at h; exact h
  unfold atN
  rw [List.take_succ_eq_append_getElem hk, if_pos (List.mem_append.2 (.inr (List.mem_singleton.2 e.symm))), ← e, hd.idxOf_getElem _ hk]
theorem atN_miss {ats : List Nat} {i k : Nat} (hk : k < ats.length) (h : ats.getD k 0 ≠ i) : atN ats i (k + 1) = atN ats i k := by
  have e : ats[k] ≠ i := by rw [List.getD_eq_getElem?_getD, List.getElem?_eq_getElem hk] at h; exact h
  unfold atN
  rw [List.take_succ_eq_append_getElem hk]
  by_cases hm : i ∈ ats.take k
  · rw [if_pos (List.mem_append.2 (.inl hm)), if_pos hm]
  · rw [if_neg hm, if_neg (fun k2 => by
      rcases List.mem_append.1 k2 with k2 | k2
      · exact hm k2
      · exact e (List.mem_singleton.1 k2).symm)]
theorem atN_in {ats : List Nat} {i k : Nat} (hk : k = ats.length) (h : i ∈ ats) : atN ats i k = ((ats.idxOf i : Nat) : Int) := by
  unfold atN; rw [hk, List.take_length, if_pos h]
theorem atN_out {ats : List Nat} {i k : Nat} (hk : k = ats.length) (h : i ∉ ats) : atN ats i k = -1 := by
  unfold atN; rw [hk, List.take_length, if_neg h]
theorem bNode_atom {op : Int} (h : atomOp op = true) (x y g : Bool) : bNode op x y g = g := by
  have h2 : op = 3 ∨ 8 < op := by
    unfold atomOp at h
    simpa using h
  have h1 : op ≠ 1 := by omega
  have h22 : op ≠ 2 := by omega
  have h4 : op ≠ 4 := by omega
  have h5 : op ≠ 5 := by omega
  have h6 : op ≠ 6 := by omega
  have h7 : op ≠ 7 := by omega
  have h8 : op ≠ 8 := by omega
  unfold bNode
  rw [if_neg h1, if_neg h22, if_neg h4, if_neg h5, if_neg h6, if_neg h7, if_neg h8]
theorem bNode_free {op : Int} (h1 : 1 ≤ op) (h8 : op ≤ 8) (h3 : op ≠ 3) (x y g g' : Bool) : bNode op x y g = bNode op x y g' := by
  have : op = 1 ∨ op = 2 ∨ op = 4 ∨ op = 5 ∨ op = 6 ∨ op = 7 ∨ op = 8 := by omega
  rcases this with rfl | rfl | rfl | rfl | rfl | rfl | rfl <;> rfl
/-- a node's truth at a valuation of the facts, as the reference computes it -/
theorem bNode_fact (q : List Nd) (v i : Nat) {x y : Bool} (h1 : 1 ≤ (q.getD i nd0).op) (h8 : (q.getD i nd0).op ≤ 8) : bNode (q.getD i nd0).op x y (v.testBit (q.getD i nd0).i.toNat) = bNode (q.getD i nd0).op x y (factB q v i) := by
  by_cases h3 : (q.getD i nd0).op = 3
  · unfold factB
    rw [decide_eq_true h3, Bool.true_and]
  · exact bNode_free h1 h8 h3 _ _ _ _
theorem bNode_none {op : Int} (x y : Bool) (i : Nat) : bNode op x y ((0 : Nat).testBit i) = bNode op x y false := by
  rw [Nat.zero_testBit]
theorem gA_in {a : List Nat} {i : Nat} (h : i ∈ a) (facts : Nat) : gA a facts i = facts.testBit (a.idxOf i) := by unfold gA; rw [if_pos h]
theorem gA_out {a : List Nat} {i : Nat} (h : i ∉ a) (facts : Nat) : gA a facts i = false := by unfold gA; rw [if_neg h]
theorem bNode_big {op : Int} (h : 8 < op) (x y : Bool) : bNode op x y false = false := bNode_atom (by unfold atomOp; simp [h]) x y false
theorem bL_succ (q : List Nd) (g : Nat → Bool) (i : Nat) : bL q g (i + 1) = bL q g i ++ [bNode (q.getD i nd0).op ((bL q g i).getD (q.getD i nd0).x.toNat false) ((bL q g i).getD (q.getD i nd0).y.toNat false) (g i)] := rfl
/-- the kids of a node, as the reference pushes them -/
theorem kids_none {n : Nd} (h : n.op = 3 ∨ 8 < n.op ∨ n.op < 4) : kids n = [] := by
  unfold kids
  rw [if_neg (by omega), if_neg (by omega)]
theorem kids_one {n : Nd} (h : n.op = 4) : kids n = [n.x.toNat] := by unfold kids; rw [if_pos h]
theorem kids_two {n : Nd} (h : 5 ≤ n.op) (h8 : n.op ≤ 8) : kids n = [n.x.toNat, n.y.toNat] := by unfold kids; rw [if_neg (by omega), if_pos ⟨h, h8⟩]
/-- the order in which the nodes are met -/
def ordL (q : List Nd) : List Nat := (metAll q).order
theorem ordL_atoms (q : List Nd) : atomsOf q = atomsL q (ordL q) := rfl
theorem stack_start {q : List Nd} (hq : opsL q) (hne : q ≠ []) : StackR q [q.length - 1] ⟨List.replicate q.length false, []⟩ (metAll q) := by
  have hp := List.length_pos_iff.2 hne
  exact stack_meet hq q.length (q.length - 1) (by omega) (by omega) [] _ _ (.nil _)
theorem StackR.done {q : List Nd} {s s' : TS} (h : StackR q [] s s') : s' = s := by cases h; rfl
theorem StackR.skip_inv {q : List Nd} {i : Nat} {S : List Nat} {s s' : TS} (h : StackR q (i :: S) s s') (hm : s.met.getD i false = true) : StackR q S s s' := by
  cases h with
  | skip _ h => exact h
  | visit h1 _ => rw [hm] at h1; cases h1
theorem StackR.visit_inv {q : List Nd} {i : Nat} {S : List Nat} {s s' : TS} (h : StackR q (i :: S) s s') (hm : s.met.getD i false = false) : StackR q (kids (q.getD i nd0) ++ S) (s.mark i) s' := by
  cases h with
  | skip h1 _ => rw [hm] at h1; cases h1
  | visit _ h => exact h
theorem MetOk.few {n : Nat} {s : TS} (h : MetOk n s) : s.order.length ≤ n := by
  have hsub : s.order ⊆ List.range n := fun i hi => by
    have h3 := (h.mem i).1 hi
    refine List.mem_range.2 ?_
    by_cases hl : i < n
    · exact hl
    · rw [List.getD_eq_getElem?_getD, List.getElem?_eq_none (by rw [h.len]; omega)] at h3; cases h3
  have := h.nodup.length_le_of_subset hsub
  simpa using this
theorem MetOk.less {n : Nat} {s : TS} (h : MetOk n s) {i : Nat} (hi : i < n) (hm : s.met.getD i false = false) : s.order.length < n := by
  have h2 := (h.mark hi hm).few
  have : (s.mark i).order.length = s.order.length + 1 := by show (s.order ++ [i]).length = _; simp
  omega
theorem ordL_ok {q : List Nd} (hq : opsL q) (hne : q ≠ []) : MetOk q.length (metAll q) := (met_all hq hne).1
theorem ordL_lt {q : List Nd} (hq : opsL q) (hne : q ≠ []) {i : Nat} (h : i ∈ ordL q) : i < q.length := by
  have hm := ordL_ok hq hne
  have h3 := (hm.mem i).1 h
  by_cases hl : i < q.length
  · exact hl
  · rw [List.getD_eq_getElem?_getD, List.getElem?_eq_none (by rw [hm.len]; omega)] at h3; cases h3
theorem atomsL_take (q : List Nd) (l : List Nat) {k : Nat} (h : k < l.length) : atomsL q (l.take (k + 1)) = if atomOp (q.getD (l.getD k 0) nd0).op = true then atomsL q (l.take k) ++ [l.getD k 0] else atomsL q (l.take k) := by
  have e : l.getD k 0 = l[k] := by rw [List.getD_eq_getElem?_getD, List.getElem?_eq_getElem h]; rfl
  rw [List.take_succ_eq_append_getElem h, atomsL_snoc, e]
/-- a new atom is none of those before it -/
theorem atomsL_new {q : List Nd} {l : List Nat} (hn : l.Nodup) {k : Nat} (h : k < l.length) : l.getD k 0 ∉ atomsL q (l.take k) := by
  intro hm
  have h2 := (List.mem_filter.1 hm).1
  have e : l.getD k 0 = l[k] := by rw [List.getD_eq_getElem?_getD, List.getElem?_eq_getElem h]; rfl
  rw [e] at h2
  obtain ⟨j, hj, e2⟩ := List.getElem_of_mem h2
  rw [List.length_take] at hj
  rw [List.getElem_take] at e2
  exact List.pairwise_iff_getElem.1 (List.nodup_iff_pairwise_ne.1 hn) j k (by omega) h (by omega) e2
end Go.Proofs.Ws
