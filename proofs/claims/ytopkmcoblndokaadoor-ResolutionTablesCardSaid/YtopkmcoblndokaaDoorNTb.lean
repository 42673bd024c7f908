/- Layer 6: texts joined: UOz UHa UHb UHc UOa. -/
import Derived.Test.YtopkmcoblndokaaDoorNTa
/- Layer 10: bits and sorted lists, as plain mathematics. -/
namespace Go.Proofs.Ws.rsl
open Go
def clr (x i : Nat) : Nat := if x.testBit i = true then x ^^^ 2 ^ i else x
def flp (x i : Nat) : Nat := x ^^^ 2 ^ i
theorem flp_bit (x i j : Nat) : (flp x i).testBit j = if i = j then !x.testBit j else x.testBit j := by
  unfold flp
  rw [Nat.testBit_xor, Nat.testBit_two_pow]
  by_cases e : i = j
  · rw [if_pos e]; simp [e]
  · rw [if_neg e]; simp [e]
theorem clr_bit (x i j : Nat) : (clr x i).testBit j = if i = j then false else x.testBit j := by
  unfold clr
  by_cases h : x.testBit i = true
  · rw [if_pos h]
    have := flp_bit x i j
    unfold flp at this
    rw [this]
    by_cases e : i = j
    · subst e; rw [if_pos rfl, if_pos rfl, h]; rfl
    · rw [if_neg e, if_neg e]
  · rw [if_neg h]
    by_cases e : i = j
    · subst e; rw [if_pos rfl]; exact Bool.eq_false_iff.2 h
    · rw [if_neg e]
theorem sorted_ext {α : Type} {lt : α → α → Prop} (hi : ∀ a, ¬ lt a a) (ht : ∀ {a b c}, lt a b → lt b c → lt a c) : ∀ (l m : List α), l.Pairwise lt → m.Pairwise lt → (∀ a, a ∈ l ↔ a ∈ m) → l = m
  | [], [], _, _, _ => rfl
  | [], b :: m, _, _, h => by have := (h b).2 List.mem_cons_self; cases this
  | a :: l, [], _, _, h => by have := (h a).1 List.mem_cons_self; cases this
  | a :: l, b :: m, hl, hm, h => by
    obtain ⟨hl1, hl2⟩ := List.pairwise_cons.1 hl
    obtain ⟨hm1, hm2⟩ := List.pairwise_cons.1 hm
    have e : a = b := by
      rcases List.mem_cons.1 ((h a).1 List.mem_cons_self) with e | h1
      · exact e
      · rcases List.mem_cons.1 ((h b).2 List.mem_cons_self) with e | h2
        · exact e.symm
        · exact absurd (ht (hl1 b h2) (hm1 a h1)) (hi a)
    subst e
    have : l = m := sorted_ext hi ht l m hl2 hm2 (fun c => by
      constructor
      · intro hc
        rcases List.mem_cons.1 ((h c).1 (List.mem_cons_of_mem _ hc)) with e | h1
        · exact absurd (hl1 c hc) (by rw [e]; exact hi a)
        · exact h1
      · intro hc
        rcases List.mem_cons.1 ((h c).2 (List.mem_cons_of_mem _ hc)) with e | h1
        · exact absurd (hm1 c hc) (by rw [e]; exact hi a)
        · exact h1)
    rw [this]
end Go.Proofs.Ws.rsl
/- Layer 10 as plain mathematics: clauses, resolvents, and the search for a refutation by cases. -/
namespace Go.Proofs.Ws.rsl
open Go
/-- the variable of a literal; its truth at a valuation -/
def varOf (x : Int) : Nat := x.natAbs - 1
def litT (V : Nat) (x : Int) : Bool := V.testBit (varOf x) == decide (0 < x)
def satC (V : Nat) (c : List Int) : Prop := ∃ x ∈ c, litT V x = true
/-- a clause in normal form over n variables -/
structure ClOk (n : Nat) (c : List Int) : Prop where
  lits : ∀ x ∈ c, x ≠ 0 ∧ x.natAbs ≤ n
  sorted : c.Pairwise (fun a b => varOf a < varOf b)
theorem varOf_neg (x : Int) : varOf (-x) = varOf x := by unfold varOf; rw [Int.natAbs_neg]
theorem litT_neg {V : Nat} {x : Int} (h : x ≠ 0) : litT V (-x) = !litT V x := by
  unfold litT
  rw [varOf_neg]
  have : decide (0 < -x) = !decide (0 < x) := by
    by_cases k : 0 < x
    · rw [decide_eq_true k, decide_eq_false (by omega)]; rfl
    · rw [decide_eq_false k, decide_eq_true (by omega)]; rfl
  rw [this]
  cases V.testBit (varOf x) <;> cases decide (0 < x) <;> rfl
/-- literals of the same variable: equal or opposite -/
theorem var_eq {x y : Int} (hx : x ≠ 0) (hy : y ≠ 0) (h : varOf x = varOf y) : x = y ∨ x = -y := by unfold varOf at h; omega
/-- two clauses in normal form with the same literals are equal -/
theorem cl_ext {n : Nat} {c d : List Int} (hc : ClOk n c) (hd : ClOk n d) (h : ∀ x, x ∈ c ↔ x ∈ d) : c = d :=
  sorted_ext (lt := fun a b => varOf a < varOf b) (fun _ => Nat.lt_irrefl _) (fun h k => Nat.lt_trans h k) c d hc.sorted hd.sorted h
/-- the resolvent of two clauses on the literal p of the first one -/
structure IsRes (n : Nat) (a b : List Int) (p : Int) (r : List Int) : Prop where
  pa : p ∈ a
  nb : -p ∈ b
  ok : ClOk n r
  mem : ∀ x, x ∈ r ↔ x ∈ a ∧ x ≠ p ∨ x ∈ b ∧ x ≠ -p
theorem IsRes.fn {n : Nat} {a b r s : List Int} {p : Int} (h : IsRes n a b p r) (k : IsRes n a b p s) : r = s := cl_ext h.ok k.ok (fun x => by rw [h.mem, k.mem])
/-- what follows from two clauses holds where they hold -/
theorem IsRes.sound {n V : Nat} {a b r : List Int} {p : Int} (h : IsRes n a b p r) (hp : p ≠ 0) (ha : satC V a) (hb : satC V b) : satC V r := by
  obtain ⟨x, hx, hxt⟩ := ha
  obtain ⟨y, hy, hyt⟩ := hb
  by_cases e : x = p
  · by_cases e2 : y = -p
    · rw [e] at hxt
      rw [e2, litT_neg hp, hxt] at hyt
      cases hyt
    · exact ⟨y, (h.mem y).2 (.inr ⟨hy, e2⟩), hyt⟩
  · exact ⟨x, (h.mem x).2 (.inl ⟨hx, e⟩), hxt⟩
/-- the literals of n variables in their order: each variable's negation before it -/
def litsL : Nat → List Int
  | 0 => []
  | n + 1 => litsL n ++ [-((n : Int) + 1), (n : Int) + 1]
theorem lits_mem : ∀ (n : Nat) (x : Int), x ∈ litsL n ↔ x ≠ 0 ∧ x.natAbs ≤ n
  | 0, x => by show x ∈ [] ↔ _; simp
  | n + 1, x => by
    show x ∈ litsL n ++ [-((n : Int) + 1), (n : Int) + 1] ↔ _
    rw [List.mem_append, lits_mem n x]
    simp only [List.mem_cons, List.not_mem_nil, or_false]
    omega
/-- literals chosen so that none are opposite stand in strict order -/
theorem lits_sorted (P : Int → Bool) (hP : ∀ x, P x = true → P (-x) = false) : ∀ n, ((litsL n).filter P).Pairwise (fun a b => varOf a < varOf b)
  | 0 => List.Pairwise.nil
  | n + 1 => by
    show (List.filter P (litsL n ++ [-((n : Int) + 1), (n : Int) + 1])).Pairwise _
    rw [List.filter_append, List.pairwise_append]
    refine ⟨lits_sorted P hP n, ?_, fun a ha b hb => ?_⟩
    · rw [List.filter_cons]
      by_cases h : P (-((n : Int) + 1)) = true
      · have h2 := hP _ h
        rw [Int.neg_neg] at h2
        rw [if_pos h, List.filter_cons, if_neg (by rw [h2]; decide)]
        exact List.pairwise_singleton _ _
      · rw [if_neg h, List.filter_cons]
        split
        · exact List.pairwise_singleton _ _
        · exact List.Pairwise.nil
    · have h1 := ((lits_mem n a).1 (List.mem_filter.1 ha).1)
      have h2 := (List.mem_filter.1 hb).1
      simp only [List.mem_cons, List.not_mem_nil, or_false] at h2
      unfold varOf
      rcases h2 with h2 | h2 <;> (rw [h2]; omega)
def resF (n : Nat) (a b : List Int) (p : Int) : List Int := (litsL n).filter (fun x => decide (x ∈ a ∧ x ≠ p ∨ x ∈ b ∧ x ≠ -p))
/-- there is a resolvent where no other two literals are opposite -/
theorem res_ok {n : Nat} {a b : List Int} {p : Int} (ha : ClOk n a) (hb : ClOk n b) (hp : p ∈ a) (hn : -p ∈ b)
    (h : ∀ x, (x ∈ a ∧ x ≠ p ∨ x ∈ b ∧ x ≠ -p) → ¬ (-x ∈ a ∧ -x ≠ p ∨ -x ∈ b ∧ -x ≠ -p)) : IsRes n a b p (resF n a b p) := by
  have hm : ∀ x, x ∈ resF n a b p ↔ x ∈ a ∧ x ≠ p ∨ x ∈ b ∧ x ≠ -p := by
    intro x
    unfold resF
    rw [List.mem_filter, decide_eq_true_eq, lits_mem]
    refine ⟨fun k => k.2, fun k => ⟨?_, k⟩⟩
    rcases k with k | k
    · exact ha.lits x k.1
    · exact hb.lits x k.1
  refine ⟨hp, hn, ⟨fun x hx => ?_, ?_⟩, hm⟩
  · rcases (hm x).1 hx with k | k
    · exact ha.lits x k.1
    · exact hb.lits x k.1
  · refine lits_sorted _ (fun x hx => ?_) n
    rw [decide_eq_true_eq] at hx
    rw [decide_eq_false_iff_not]
    exact h x hx
/-- a clause is false at a valuation of the variables from open on -/
def falseC (V k : Nat) (c : List Int) : Prop := ∀ x ∈ c, k ≤ varOf x ∧ litT V x = false
instance (V k : Nat) (c : List Int) : Decidable (falseC V k c) := by unfold falseC; infer_instance
/-- a bit set, a bit not set -/
def bit0 (V k : Nat) : Nat := clr V k
def bit1 (V k : Nat) : Nat := V ||| 2 ^ k
theorem bit1_bit (V k j : Nat) : (bit1 V k).testBit j = if k = j then true else V.testBit j := by
  unfold bit1
  rw [Nat.testBit_or, Nat.testBit_two_pow]
  by_cases e : k = j
  · rw [if_pos e, decide_eq_true e, Bool.or_true]
  · rw [if_neg e, decide_eq_false e, Bool.or_false]
/-- the search: the clause that is found, by the cases of the last open variable -/
def refC (n : Nat) (l : List (List Int)) : Nat → Nat → Option (List Int)
  | k, V =>
    match l.find? (fun c => decide (falseC V k c)) with
    | some c => some c
    | none =>
      match k with
      | 0 => none
      | k + 1 =>
        match refC n l k (bit0 V k) with
        | none => none
        | some a => if (k : Int) + 1 ∈ a then
            (match refC n l k (bit1 V k) with
            | none => none
            | some b => if -((k : Int) + 1) ∈ b then some (resF n a b ((k : Int) + 1)) else some b)
          else some a
theorem falseC_up {V W k : Nat} {c : List Int} (h : falseC W k c) (hW : ∀ j, k + 1 ≤ j → W.testBit j = V.testBit j) (hn : ∀ x ∈ c, varOf x ≠ k) : falseC V (k + 1) c := by
  intro x hx
  obtain ⟨h1, h2⟩ := h x hx
  have h3 := hn x hx
  refine ⟨by omega, ?_⟩
  unfold litT at h2 ⊢
  rw [hW _ (by omega)] at h2
  exact h2
theorem lit_pos {k : Nat} : varOf ((k : Int) + 1) = k := by unfold varOf; omega
theorem bit0_high {V k j : Nat} (h : k + 1 ≤ j) : (bit0 V k).testBit j = V.testBit j := by unfold bit0; rw [clr_bit, if_neg (by omega)]
theorem bit1_high {V k j : Nat} (h : k + 1 ≤ j) : (bit1 V k).testBit j = V.testBit j := by rw [bit1_bit, if_neg (by omega)]
/-- literals of the variable that was set, in a clause that is false -/
theorem false0 {V k : Nat} {c : List Int} (h : falseC (bit0 V k) k c) {x : Int} (hx : x ∈ c) (_h0 : x ≠ 0) (hv : varOf x = k) : x = (k : Int) + 1 := by
  have h2 := (h x hx).2
  unfold litT at h2
  rw [hv, show (bit0 V k).testBit k = false by unfold bit0; rw [clr_bit, if_pos rfl]] at h2
  have : 0 < x := by
    by_cases hp : 0 < x
    · exact hp
    · rw [decide_eq_false hp] at h2; cases h2
  unfold varOf at hv; omega
theorem false1 {V k : Nat} {c : List Int} (h : falseC (bit1 V k) k c) {x : Int} (hx : x ∈ c) (h0 : x ≠ 0) (hv : varOf x = k) : x = -((k : Int) + 1) := by
  have h2 := (h x hx).2
  unfold litT at h2
  rw [hv, show (bit1 V k).testBit k = true by rw [bit1_bit, if_pos rfl]] at h2
  have : ¬ 0 < x := by
    intro hp
    rw [decide_eq_true hp] at h2; cases h2
  unfold varOf at hv; omega
/-- what the search gives: a clause that is false there, or a valuation that satisfies all clauses -/
def Found (n : Nat) (l : List (List Int)) (k V : Nat) : Option (List Int) → Prop
  | some c => ClOk n c ∧ falseC V k c
  | none => ∃ W, (∀ j, k ≤ j → W.testBit j = V.testBit j) ∧ ∀ c ∈ l, satC W c
theorem find_some {l : List (List Int)} {V k : Nat} {c : List Int} (h : l.find? (fun c => decide (falseC V k c)) = some c) : c ∈ l ∧ falseC V k c :=
  ⟨List.mem_of_find?_eq_some h, by have := List.find?_some h; simpa using this⟩
theorem find_none {l : List (List Int)} {V k : Nat} (h : l.find? (fun c => decide (falseC V k c)) = none) : ∀ c ∈ l, ¬ falseC V k c := fun c hc => by
  have := List.find?_eq_none.1 h c hc
  simpa using this
theorem not_false {V : Nat} {c : List Int} (h : ¬ falseC V 0 c) : satC V c := by
  apply Classical.byContradiction
  intro hs
  apply h
  intro x hx
  refine ⟨Nat.zero_le _, ?_⟩
  cases hb : litT V x with
  | false => rfl
  | true => exact absurd ⟨x, hx, hb⟩ hs
/-- the resolvent of the clauses of the two cases is false where the variable is open -/
theorem res_false {n V k : Nat} {a b : List Int} (ha : ClOk n a) (hb : ClOk n b) (fa : falseC (bit0 V k) k a) (fb : falseC (bit1 V k) k b) (hp : (k : Int) + 1 ∈ a) (hn : -((k : Int) + 1) ∈ b) :
    IsRes n a b ((k : Int) + 1) (resF n a b ((k : Int) + 1)) ∧ falseC V (k + 1) (resF n a b ((k : Int) + 1)) := by
  have key : ∀ x, (x ∈ a ∧ x ≠ (k : Int) + 1 ∨ x ∈ b ∧ x ≠ -((k : Int) + 1)) → x ≠ 0 ∧ k + 1 ≤ varOf x ∧ litT V x = false := by
    rintro x (⟨h1, h2⟩ | ⟨h1, h2⟩)
    · have h0 := (ha.lits x h1).1
      obtain ⟨h3, h4⟩ := fa x h1
      have hne : varOf x ≠ k := fun e => h2 (false0 fa h1 h0 e)
      refine ⟨h0, by omega, ?_⟩
      unfold litT at h4 ⊢
      rw [bit0_high (by omega)] at h4
      exact h4
    · have h0 := (hb.lits x h1).1
      obtain ⟨h3, h4⟩ := fb x h1
      have hne : varOf x ≠ k := fun e => h2 (false1 fb h1 h0 e)
      refine ⟨h0, by omega, ?_⟩
      unfold litT at h4 ⊢
      rw [bit1_high (by omega)] at h4
      exact h4
  have hr := res_ok ha hb hp hn (fun x hx hy => by
    obtain ⟨h0, _, h1⟩ := key x hx
    obtain ⟨_, _, h2⟩ := key (-x) hy
    rw [litT_neg h0, h1] at h2
    cases h2)
  exact ⟨hr, fun x hx => (key x ((hr.mem x).1 hx)).2⟩
theorem refC_zero (n : Nat) (l : List (List Int)) (V : Nat) : refC n l 0 V = l.find? (fun c => decide (falseC V 0 c)) := by
  unfold refC
  cases l.find? (fun c => decide (falseC V 0 c)) <;> rfl
/-- the case that is left of a search below -/
def caseR (n k : Nat) : Option (List Int) → Option (List Int) → Option (List Int)
  | none, _ => none
  | some a, r => if (k : Int) + 1 ∈ a then (match r with
      | none => none
      | some b => if -((k : Int) + 1) ∈ b then some (resF n a b ((k : Int) + 1)) else some b) else some a
theorem refC_succ (n : Nat) (l : List (List Int)) (k V : Nat) : refC n l (k + 1) V = match l.find? (fun c => decide (falseC V (k + 1) c)) with
    | some c => some c
    | none => caseR n k (refC n l k (bit0 V k)) (refC n l k (bit1 V k)) := by
  rw [refC]
  cases l.find? (fun c => decide (falseC V (k + 1) c)) with
  | some c => rfl
  | none =>
    simp only
    cases refC n l k (bit0 V k) <;> rfl
theorem refC_ok {n : Nat} {l : List (List Int)} (hl : ∀ c ∈ l, ClOk n c) : ∀ k V, Found n l k V (refC n l k V)
  | 0, V => by
    rw [refC_zero]
    cases h : l.find? (fun c => decide (falseC V 0 c)) with
    | some c => exact ⟨hl c (find_some h).1, (find_some h).2⟩
    | none => exact ⟨V, fun _ _ => rfl, fun c hc => not_false (find_none h c hc)⟩
  | k + 1, V => by
    have i0 := refC_ok hl k (bit0 V k)
    have i1 := refC_ok hl k (bit1 V k)
    rw [refC_succ]
    cases h : l.find? (fun c => decide (falseC V (k + 1) c)) with
    | some c => exact ⟨hl c (find_some h).1, (find_some h).2⟩
    | none =>
      show Found n l (k + 1) V (caseR n k _ _)
      revert i0 i1
      generalize refC n l k (bit0 V k) = r0
      generalize refC n l k (bit1 V k) = r1
      intro i0 i1
      cases r0 with
      | none =>
        obtain ⟨W, h1, h2⟩ := i0
        exact ⟨W, fun j hj => by rw [h1 j (by omega), bit0_high hj], h2⟩
      | some a =>
        show Found n l (k + 1) V (if (k : Int) + 1 ∈ a then _ else some a)
        by_cases hp : (k : Int) + 1 ∈ a
        · rw [if_pos hp]
          cases r1 with
          | none =>
            obtain ⟨W, h1, h2⟩ := i1
            exact ⟨W, fun j hj => by rw [h1 j (by omega), bit1_high hj], h2⟩
          | some b =>
            show Found n l (k + 1) V (if -((k : Int) + 1) ∈ b then _ else some b)
            by_cases hn : -((k : Int) + 1) ∈ b
            · rw [if_pos hn]
              have := res_false i0.1 i1.1 i0.2 i1.2 hp hn
              exact ⟨this.1.ok, this.2⟩
            · rw [if_neg hn]
              exact ⟨i1.1, falseC_up i1.2 (fun j hj => bit1_high hj) (fun x hx e => hn (by rw [← false1 i1.2 hx (i1.1.lits x hx).1 e]; exact hx))⟩
        · rw [if_neg hp]
          exact ⟨i0.1, falseC_up i0.2 (fun j hj => bit0_high hj) (fun x hx e => hp (by rw [← false0 i0.2 hx (i0.1.lits x hx).1 e]; exact hx))⟩
end Go.Proofs.Ws.rsl
/- Layer 10 as plain mathematics: the lines of a refutation, each clause once; what is accepted is sound (ResolutionDecides, ResolutionSound). -/
namespace Go.Proofs.Ws.rsl
open Go
structure Ln where
  cl : List Int
  left : Int
  right : Int
  on : Int
def ln0 : Ln := ⟨[], 0, 0, 0⟩
/-- a line is a clause, or the resolvent of two earlier lines -/
def LnOk (n : Nat) (l : List (List Int)) (s : List Ln) (i : Nat) (x : Ln) : Prop :=
  (x.left = -1 ∧ ∃ j : Nat, x.right = (j : Int) ∧ j < l.length ∧ x.on = 0 ∧ x.cl = l.getD j []) ∨
  (∃ a b v : Nat, x.left = (a : Int) ∧ x.right = (b : Int) ∧ a < i ∧ b < i ∧ x.on = (v : Int) ∧ IsRes n (s.getD a ln0).cl (s.getD b ln0).cl ((v : Int) + 1) x.cl)
def Lines (n : Nat) (l : List (List Int)) (s : List Ln) : Prop := ∀ i, i < s.length → LnOk n l s i (s.getD i ln0)
theorem getL_app {s r : List Ln} {i : Nat} (h : i < s.length) : (s ++ r).getD i ln0 = s.getD i ln0 := by
  rw [List.getD_eq_getElem?_getD, List.getElem?_append_left h, ← List.getD_eq_getElem?_getD]
theorem getL_last {s : List Ln} {x : Ln} : (s ++ [x]).getD s.length ln0 = x := by
  rw [List.getD_eq_getElem?_getD, List.getElem?_append_right (Nat.le_refl _), Nat.sub_self]; rfl
theorem LnOk.mono {n : Nat} {l : List (List Int)} {s r : List Ln} {i : Nat} {x : Ln} (h : LnOk n l s i x) (hi : i ≤ s.length) : LnOk n l (s ++ r) i x := by
  rcases h with h | ⟨a, b, v, h1, h2, h3, h4, h5, h6⟩
  · exact .inl h
  · exact .inr ⟨a, b, v, h1, h2, h3, h4, h5, by rw [getL_app (by omega), getL_app (by omega)]; exact h6⟩
theorem Lines.snoc {n : Nat} {l : List (List Int)} {s : List Ln} {x : Ln} (h : Lines n l s) (hx : LnOk n l s s.length x) : Lines n l (s ++ [x]) := by
  intro i hi
  rw [List.length_append, List.length_singleton] at hi
  by_cases e : i = s.length
  · subst e; rw [getL_last]; exact hx.mono (Nat.le_refl _)
  · rw [getL_app (by omega)]; exact (h i (by omega)).mono (by omega)
/-- a line whose clause is there is not added -/
def addLn (s : List Ln) (x : Ln) : Nat × List Ln := match s.findIdx? (fun y => decide (y.cl = x.cl)) with
  | some i => (i, s)
  | none => (s.length, s ++ [x])
def NoEmp (s : List Ln) : Prop := ∀ i, i < s.length → (s.getD i ln0).cl ≠ []
/-- an empty clause stands only in the last line, and then it is the result -/
def EmpLast (s : List Ln) (r : Option Nat) : Prop := ∀ i, i < s.length → (s.getD i ln0).cl = [] → i + 1 = s.length ∧ r = some i
theorem addLn_ok {n : Nat} {l : List (List Int)} {s : List Ln} {x : Ln} (h : Lines n l s) (hx : LnOk n l s s.length x) (hne : NoEmp s) :
    s <+: (addLn s x).2 ∧ Lines n l (addLn s x).2 ∧ (addLn s x).1 < (addLn s x).2.length ∧ ((addLn s x).2.getD (addLn s x).1 ln0).cl = x.cl ∧ EmpLast (addLn s x).2 (some (addLn s x).1) := by
  unfold addLn
  cases hf : s.findIdx? (fun y => decide (y.cl = x.cl)) with
  | some i =>
    obtain ⟨hl, h1, _⟩ := List.findIdx?_eq_some_iff_getElem.1 hf
    refine ⟨List.prefix_refl _, h, hl, ?_, fun j hj k => absurd k (hne j hj)⟩
    show (s.getD i ln0).cl = x.cl
    rw [List.getD_eq_getElem?_getD, List.getElem?_eq_getElem hl]
    simpa using h1
  | none =>
    refine ⟨List.prefix_append _ _, h.snoc hx, by simp, ?_, fun j hj k => ?_⟩
    · show ((s ++ [x]).getD s.length ln0).cl = _
      rw [getL_last]
    · have hj : j < (s ++ [x]).length := hj
      have k : ((s ++ [x]).getD j ln0).cl = [] := k
      rw [List.length_append, List.length_singleton] at hj
      by_cases e : j = s.length
      · subst e
        exact ⟨by simp, rfl⟩
      · rw [getL_app (by omega)] at k
        exact absurd k (hne j (by omega))
/-- the search with its lines -/
def refS (n : Nat) (l : List (List Int)) : Nat → Nat → List Ln → Option Nat × List Ln
  | 0, V, s =>
    match l.findIdx? (fun c => decide (falseC V 0 c)) with
    | some i => (some (addLn s ⟨l.getD i [], -1, (i : Int), 0⟩).1, (addLn s ⟨l.getD i [], -1, (i : Int), 0⟩).2)
    | none => (none, s)
  | k + 1, V, s =>
    match l.findIdx? (fun c => decide (falseC V (k + 1) c)) with
    | some i => (some (addLn s ⟨l.getD i [], -1, (i : Int), 0⟩).1, (addLn s ⟨l.getD i [], -1, (i : Int), 0⟩).2)
    | none =>
      match refS n l k (bit0 V k) s with
      | (none, s1) => (none, s1)
      | (some a, s1) =>
        if (k : Int) + 1 ∈ (s1.getD a ln0).cl then
          (match refS n l k (bit1 V k) s1 with
          | (none, s2) => (none, s2)
          | (some b, s2) =>
            if -((k : Int) + 1) ∈ (s2.getD b ln0).cl then
              (some (addLn s2 ⟨resF n (s2.getD a ln0).cl (s2.getD b ln0).cl ((k : Int) + 1), (a : Int), (b : Int), (k : Int)⟩).1, (addLn s2 ⟨resF n (s2.getD a ln0).cl (s2.getD b ln0).cl ((k : Int) + 1), (a : Int), (b : Int), (k : Int)⟩).2)
            else (some b, s2))
        else (some a, s1)
/-- what the search leaves: good lines, and the clause that the plain search finds -/
structure SOk (n : Nat) (l : List (List Int)) (s : List Ln) (c : Option (List Int)) (r : Option Nat × List Ln) : Prop where
  pre : s <+: r.2
  lines : Lines n l r.2
  res : match c, r.1 with
    | none, none => True
    | some c, some i => i < r.2.length ∧ (r.2.getD i ln0).cl = c
    | _, _ => False
  emp : EmpLast r.2 r.1
theorem find_idx {l : List (List Int)} (p : List Int → Bool) : l.find? p = (l.findIdx? p).map (fun i => l.getD i []) := by
  induction l with
  | nil => rfl
  | cons a l ih =>
    rw [List.find?_cons, List.findIdx?_cons]
    by_cases h : p a = true
    · rw [h]; rfl
    · rw [Bool.eq_false_iff.2 h, ih]
      simp only
      cases l.findIdx? p <;> rfl
theorem base_ok {n : Nat} {l : List (List Int)} {s : List Ln} (h : Lines n l s) (hne : NoEmp s) {p : List Int → Bool} {i : Nat} (hi : l.findIdx? p = some i) :
    SOk n l s (some (l.getD i [])) (some (addLn s ⟨l.getD i [], -1, (i : Int), 0⟩).1, (addLn s ⟨l.getD i [], -1, (i : Int), 0⟩).2) := by
  obtain ⟨hl, _, _⟩ := List.findIdx?_eq_some_iff_getElem.1 hi
  obtain ⟨h1, h2, h3, h4, h5⟩ := addLn_ok h (x := ⟨l.getD i [], -1, (i : Int), 0⟩) (.inl ⟨rfl, i, rfl, hl, rfl, rfl⟩) hne
  exact ⟨h1, h2, ⟨h3, h4⟩, h5⟩
theorem no_emp {s : List Ln} {r : Option Nat} (h : EmpLast s r) (hr : ∀ i, r = some i → (s.getD i ln0).cl ≠ []) : NoEmp s := by
  intro i hi e
  exact hr i (h i hi e).2 e
theorem refS_ok {n : Nat} {l : List (List Int)} (hl : ∀ c ∈ l, ClOk n c) : ∀ k V s, Lines n l s → NoEmp s → SOk n l s (refC n l k V) (refS n l k V s)
  | 0, V, s, h, hne => by
    rw [refC_zero, find_idx]
    unfold refS
    cases hi : l.findIdx? (fun c => decide (falseC V 0 c)) with
    | some i => exact base_ok h hne hi
    | none => exact ⟨List.prefix_refl _, h, trivial, fun j hj e => absurd e (hne j hj)⟩
  | k + 1, V, s, h, hne => by
    rw [refC_succ, find_idx]
    unfold refS
    cases hi : l.findIdx? (fun c => decide (falseC V (k + 1) c)) with
    | some i => exact base_ok h hne hi
    | none =>
      have i0 := refS_ok hl k (bit0 V k) s h hne
      have f0 := refC_ok hl k (bit0 V k)
      have f1 := refC_ok hl k (bit1 V k)
      show SOk n l s (caseR n k (refC n l k (bit0 V k)) (refC n l k (bit1 V k))) _
      revert i0 f0 f1
      have i1 := fun s1 => refS_ok hl k (bit1 V k) s1
      revert i1
      generalize refC n l k (bit0 V k) = c0
      generalize refC n l k (bit1 V k) = c1
      generalize refS n l k (bit0 V k) s = r0
      obtain ⟨p0, s1⟩ := r0
      intro i1 i0 f0 f1
      have hres := i0.res
      cases c0 with
      | none =>
        cases p0 with
        | none => exact ⟨i0.pre, i0.lines, trivial, i0.emp⟩
        | some a => exact hres.elim
      | some a =>
        cases p0 with
        | none => exact hres.elim
        | some ia =>
          obtain ⟨hia, hca⟩ := hres
          have hia : ia < s1.length := hia
          have hca : (s1.getD ia ln0).cl = a := hca
          show SOk n l s (if (k : Int) + 1 ∈ a then _ else some a) (if (k : Int) + 1 ∈ (s1.getD ia ln0).cl then _ else (some ia, s1))
          rw [hca]
          by_cases hp : (k : Int) + 1 ∈ a
          · rw [if_pos hp, if_pos hp]
            have hn1 : NoEmp s1 := no_emp i0.emp (fun i e => by
              have e : some ia = some i := e
              injection e with e
              rw [← e, hca]
              intro e2; rw [e2] at hp; cases hp)
            have j1 := i1 s1 i0.lines hn1
            revert j1
            generalize refS n l k (bit1 V k) s1 = r1
            obtain ⟨p1, s2⟩ := r1
            intro j1
            have hres := j1.res
            cases c1 with
            | none =>
              cases p1 with
              | none => exact ⟨i0.pre.trans j1.pre, j1.lines, trivial, j1.emp⟩
              | some b => exact hres.elim
            | some b =>
              cases p1 with
              | none => exact hres.elim
              | some ib =>
                obtain ⟨hib, hcb⟩ := hres
                have hib : ib < s2.length := hib
                have hcb : (s2.getD ib ln0).cl = b := hcb
                have hpre : s1 <+: s2 := j1.pre
                have hca2 : (s2.getD ia ln0).cl = a := by
                  obtain ⟨r, rfl⟩ := hpre
                  rw [getL_app hia]; exact hca
                have hlen := hpre.length_le
                show SOk n l s (if -((k : Int) + 1) ∈ b then _ else some b) (if -((k : Int) + 1) ∈ (s2.getD ib ln0).cl then _ else (some ib, s2))
                rw [hcb, hca2]
                by_cases hn : -((k : Int) + 1) ∈ b
                · rw [if_pos hn, if_pos hn]
                  have hn2 : NoEmp s2 := no_emp j1.emp (fun i e => by
                    have e : some ib = some i := e
                    injection e with e
                    rw [← e, hcb]
                    intro e2; rw [e2] at hn; cases hn)
                  have hr := (res_false f0.1 f1.1 f0.2 f1.2 hp hn).1
                  obtain ⟨h1, h2, h3, h4, h5⟩ := addLn_ok j1.lines (x := ⟨resF n a b ((k : Int) + 1), (ia : Int), (ib : Int), (k : Int)⟩)
                    (.inr ⟨ia, ib, k, rfl, rfl, by show ia < s2.length; omega, hib, rfl, by show IsRes n (s2.getD ia ln0).cl (s2.getD ib ln0).cl _ _; rw [hca2, hcb]; exact hr⟩) hn2
                  exact ⟨(i0.pre.trans hpre).trans h1, h2, ⟨h3, h4⟩, h5⟩
                · rw [if_neg hn, if_neg hn]
                  exact ⟨i0.pre.trans hpre, j1.lines, ⟨hib, hcb⟩, j1.emp⟩
          · rw [if_neg hp, if_neg hp]
            exact ⟨i0.pre, i0.lines, ⟨hia, hca⟩, i0.emp⟩
end Go.Proofs.Ws.rsl
/- Layer 10 as plain mathematics: the clauses of a table (ResolutionTables); unit propagation (ResolutionUnits). -/
namespace Go.Proofs.Ws.rsl
open Go
/-- the clause that is false at one valuation only -/
def falseAt (V n : Nat) : List Int := (List.range n).map (fun i => if V.testBit i = true then -((i : Int) + 1) else (i : Int) + 1)
theorem falseAt_lit {V W i : Nat} : litT W (if V.testBit i = true then -((i : Int) + 1) else (i : Int) + 1) = (W.testBit i != V.testBit i) := by
  have hv : varOf (if V.testBit i = true then -((i : Int) + 1) else (i : Int) + 1) = i := by
    unfold varOf; split <;> omega
  unfold litT
  rw [hv]
  by_cases h : V.testBit i = true
  · rw [if_pos h, h, decide_eq_false (by omega)]
    cases W.testBit i <;> rfl
  · rw [if_neg h, Bool.eq_false_iff.2 h, decide_eq_true (by omega)]
    cases W.testBit i <;> rfl
theorem falseAt_sat {V W n : Nat} (hV : V < 2 ^ n) (hW : W < 2 ^ n) : satC W (falseAt V n) ↔ W ≠ V := by
  constructor
  · rintro ⟨x, hx, ht⟩ e
    obtain ⟨i, _, rfl⟩ := List.mem_map.1 hx
    rw [falseAt_lit, e] at ht
    cases hb : V.testBit i <;> rw [hb] at ht <;> cases ht
  · intro h
    apply Classical.byContradiction
    intro hs
    apply h
    apply Nat.eq_of_testBit_eq
    intro i
    by_cases hi : i < n
    · apply Classical.byContradiction
      intro hne
      refine hs ⟨_, List.mem_map.2 ⟨i, List.mem_range.2 hi, rfl⟩, ?_⟩
      rw [falseAt_lit]
      cases hb : W.testBit i <;> cases hb2 : V.testBit i <;> simp_all
    · rw [Nat.testBit_lt_two_pow (Nat.lt_of_lt_of_le hV (Nat.pow_le_pow_right (by decide) (by omega))), Nat.testBit_lt_two_pow (Nat.lt_of_lt_of_le hW (Nat.pow_le_pow_right (by decide) (by omega)))]
theorem falseAt_ok (V n : Nat) : ClOk n (falseAt V n) := by
  refine ⟨fun x hx => ?_, ?_⟩
  · obtain ⟨i, hi, rfl⟩ := List.mem_map.1 hx
    have := List.mem_range.1 hi
    split <;> omega
  · unfold falseAt
    rw [List.pairwise_map]
    refine List.Pairwise.imp ?_ List.pairwise_lt_range
    intro i j hij
    unfold varOf
    split <;> split <;> omega
/-- the clauses of a table: one for each valuation outside -/
def clausesOf (t n : Nat) : List (List Int) := ((List.range (2 ^ n)).filter (fun v => !t.testBit v)).map (fun v => falseAt v n)
theorem clauses_sat {t n W : Nat} (hW : W < 2 ^ n) : (∀ c ∈ clausesOf t n, satC W c) ↔ t.testBit W = true := by
  constructor
  · intro h
    cases hb : t.testBit W with
    | true => rfl
    | false =>
      have := h (falseAt W n) (List.mem_map.2 ⟨W, List.mem_filter.2 ⟨List.mem_range.2 hW, by rw [hb]; rfl⟩, rfl⟩)
      exact absurd rfl ((falseAt_sat hW hW).1 this)
  · intro h c hc
    obtain ⟨v, hv, rfl⟩ := List.mem_map.1 hc
    obtain ⟨h1, h2⟩ := List.mem_filter.1 hv
    refine (falseAt_sat (List.mem_range.1 h1) hW).2 (fun e => ?_)
    rw [← e, h] at h2
    cases h2
theorem clauses_len (t n : Nat) : (clausesOf t n).length ≤ 2 ^ n := by
  unfold clausesOf
  rw [List.length_map]
  have := List.length_filter_le (fun v => !t.testBit v) (List.range (2 ^ n))
  rw [List.length_range] at this
  exact this
/-- the literals that are true so far, for each variable; 0 where none is -/
structure Tv (n : Nat) (T : Nat → Int) : Prop where
  lit : ∀ j, T j ≠ 0 → varOf (T j) = j ∧ j < n
def setT (T : Nat → Int) (x : Int) : Nat → Int := fun j => if j = varOf x then x else T j
theorem Tv.set {n : Nat} {T : Nat → Int} (h : Tv n T) {x : Int} (h1 : x.natAbs ≤ n) : Tv n (setT T x) := by
  refine ⟨fun j hj => ?_⟩
  unfold setT at hj ⊢
  by_cases e : j = varOf x
  · rw [if_pos e] at hj ⊢
    refine ⟨e.symm, ?_⟩
    unfold varOf at e; omega
  · rw [if_neg e] at hj ⊢; exact h.lit j hj
/-- a clause is false: all its literals are -/
def refutes (T : Nat → Int) (c : List Int) : Prop := ∀ x ∈ c, T (varOf x) = -x
end Go.Proofs.Ws.rsl
/- Layer 10: what Check returns and what satisfies, as functions on lists. -/
namespace Go.Proofs.Ws.rsl
open Go
def litB (n x : Int) : Bool := decide (x ≠ 0 ∧ -n ≤ x ∧ x ≤ n)
def varI (x : Int) : Int := max x (-x) - 1
theorem varI_var {x : Int} (h : x ≠ 0) : varI x = (varOf x : Int) := by unfold varI varOf; omega
def clGo (n : Int) : Int → List Int → Int
  | _, [] => 0
  | b, x :: c => if litB n x = true then (if varI x ≤ b then 9 else clGo n (varI x) c) else 2
def clE (n : Int) (c : List Int) : Int := clGo n (-1) c
def lsGo (n : Int) : List (List Int) → Int
  | [] => 0
  | c :: l => if clE n c = 0 then lsGo n l else clE n c
def chkR (n : Int) (l : List (List Int)) : Int := if n < 0 ∨ 12 < n then 2 else if 64 < l.length then 8 else lsGo n l
theorem clGo_ok {n : Int} : ∀ (c : List Int) (b : Int), clGo n b c = 0 ↔ (∀ x ∈ c, litB n x = true ∧ b < varI x) ∧ c.Pairwise (fun x y => varI x < varI y)
  | [], b => by simp [clGo]
  | x :: c, b => by
    show (if litB n x = true then (if varI x ≤ b then 9 else clGo n (varI x) c) else 2) = (0 : Int) ↔ _
    by_cases h : litB n x = true
    · rw [if_pos h]
      by_cases h2 : varI x ≤ b
      · rw [if_pos h2]
        constructor
        · intro h3; cases h3
        · intro h3
          have := (h3.1 x List.mem_cons_self).2
          omega
      · rw [if_neg h2, clGo_ok c (varI x), List.pairwise_cons]
        constructor
        · rintro ⟨h3, h4⟩
          refine ⟨fun y hy => ?_, fun y hy => (h3 y hy).2, h4⟩
          rcases List.mem_cons.1 hy with rfl | hy
          · exact ⟨h, by omega⟩
          · have := (h3 y hy).2
            exact ⟨(h3 y hy).1, by omega⟩
        · rintro ⟨h3, h4, h5⟩
          exact ⟨fun y hy => ⟨(h3 y (List.mem_cons_of_mem _ hy)).1, h4 y hy⟩, h5⟩
    · rw [if_neg h]
      constructor
      · intro h3; cases h3
      · intro h3
        exact absurd (h3.1 x List.mem_cons_self).1 h
theorem litB_iff {n : Nat} {x : Int} : litB (n : Int) x = true ↔ x ≠ 0 ∧ x.natAbs ≤ n := by
  unfold litB
  rw [decide_eq_true_eq]
  omega
theorem clE_ok {n : Nat} {c : List Int} : clE (n : Int) c = 0 ↔ ClOk n c := by
  unfold clE
  rw [clGo_ok]
  constructor
  · rintro ⟨h1, h2⟩
    refine ⟨fun x hx => litB_iff.1 (h1 x hx).1, ?_⟩
    refine List.Pairwise.imp_of_mem ?_ h2
    intro x y hx hy hxy
    rw [varI_var (litB_iff.1 (h1 x hx).1).1, varI_var (litB_iff.1 (h1 y hy).1).1] at hxy
    omega
  · intro h
    refine ⟨fun x hx => ⟨litB_iff.2 (h.lits x hx), by rw [varI_var (h.lits x hx).1]; omega⟩, ?_⟩
    refine List.Pairwise.imp_of_mem ?_ h.sorted
    intro x y hx hy hxy
    rw [varI_var (h.lits x hx).1, varI_var (h.lits y hy).1]
    omega
theorem lsGo_ok {n : Nat} : ∀ (l : List (List Int)), lsGo (n : Int) l = 0 ↔ ∀ c ∈ l, ClOk n c
  | [] => by simp [lsGo]
  | c :: l => by
    show (if clE (n : Int) c = 0 then lsGo (n : Int) l else clE (n : Int) c) = 0 ↔ _
    by_cases h : clE (n : Int) c = 0
    · rw [if_pos h, lsGo_ok l]
      simp [clE_ok.1 h]
    · rw [if_neg h]
      constructor
      · intro h2; exact absurd h2 h
      · intro h2; exact absurd (clE_ok.2 (h2 c List.mem_cons_self)) h
theorem chkR_ok {n : Int} {l : List (List Int)} (h : chkR n l = 0) : ∃ k : Nat, n = (k : Int) ∧ k ≤ 12 ∧ l.length ≤ 64 ∧ ∀ c ∈ l, ClOk k c := by
  unfold chkR at h
  split at h
  · cases h
  · rename_i h1
    split at h
    · cases h
    · rename_i h2
      obtain ⟨k, rfl⟩ : ∃ k : Nat, n = (k : Int) := ⟨n.toNat, by omega⟩
      exact ⟨k, rfl, by omega, by omega, lsGo_ok l |>.1 h⟩
theorem ClOk.len {n : Nat} {c : List Int} (h : ClOk n c) : c.length ≤ n := by
  have hs := h.sorted
  have hl := h.lits
  clear h
  have key : ∀ (c : List Int) (b : Nat), (∀ x ∈ c, x ≠ 0 ∧ x.natAbs ≤ n) → (∀ x ∈ c, b ≤ varOf x) → c.Pairwise (fun a b => varOf a < varOf b) → b ≤ n → c.length + b ≤ n := by
    intro c
    induction c with
    | nil => intro b _ _ _ hb; simpa using hb
    | cons x c ih =>
      intro b h1 h2 h3 _
      rw [List.pairwise_cons] at h3
      have hx := h1 x List.mem_cons_self
      have hb := h2 x List.mem_cons_self
      have hv : varOf x + 1 ≤ n := by unfold varOf; omega
      have := ih (varOf x + 1) (fun y hy => h1 y (List.mem_cons_of_mem _ hy)) (fun y hy => h3.1 y hy) h3.2 hv
      rw [List.length_cons]
      omega
  have := key c 0 hl (fun _ _ => Nat.zero_le _) hs (Nat.zero_le _)
  omega
/-- whether a valuation satisfies all clauses -/
def satB (V : Nat) (l : List (List Int)) : Bool := l.all (fun c => c.any (litT V))
theorem satB_iff {V : Nat} {l : List (List Int)} : satB V l = true ↔ ∀ c ∈ l, satC V c := by
  unfold satB satC
  rw [List.all_eq_true]
  constructor
  · intro h c hc
    obtain ⟨x, hx, h2⟩ := List.any_eq_true.1 (h c hc)
    exact ⟨x, hx, h2⟩
  · intro h c hc
    obtain ⟨x, hx, h2⟩ := h c hc
    exact List.any_eq_true.2 ⟨x, hx, h2⟩
/-- how many valuations below k satisfy -/
def cntS (l : List (List Int)) : Nat → Nat
  | 0 => 0
  | k + 1 => cntS l k + if satB k l = true then 1 else 0
theorem cntS_le (l : List (List Int)) : ∀ k, cntS l k ≤ k
  | 0 => Nat.le_refl _
  | k + 1 => by
    have := cntS_le l k
    show cntS l k + _ ≤ k + 1
    split <;> omega
/-- the truth values of the variables -/
def tget (t : List Int) (x : Int) : Int := t.getD (varOf x) 0
def tset (t : List Int) (x : Int) : List Int := t.set (varOf x) x
theorem tset_len (t : List Int) (x : Int) : (tset t x).length = t.length := by unfold tset; simp
def tsetL (t : List Int) (c : List Int) : List Int := c.foldl tset t
theorem tsetL_len (t : List Int) (c : List Int) : (tsetL t c).length = t.length := by
  unfold tsetL
  induction c generalizing t with
  | nil => rfl
  | cons x c ih => rw [List.foldl_cons, ih, tset_len]
def t00 : List Int := List.replicate 12 0
def refB (t c : List Int) : Bool := c.all (fun x => tget t x == -x)
def unitGo (t : List Int) : Int → List Int → Int
  | o, [] => o
  | o, x :: c => if tget t x = -x then unitGo t o c else if tget t x = x then 0 else if o ≠ 0 then 0 else unitGo t x c
def unitV (t c : List Int) : Int := unitGo t 0 c
def litsT (t : List Int) : List Int := t.filter (fun x => !(x == 0))
/-- what propagation comes to -/
inductive PropTo (l : List (List Int)) : List Int → List Int → Int → Prop
  | conf {t : List Int} {i : Nat} : l.findIdx? (refB t) = some i → PropTo l t t (i : Int)
  | stop {t : List Int} : l.findIdx? (refB t) = none → l.findIdx? (fun c => unitV t c != 0) = none → PropTo l t t (-1)
  | step {t u : List Int} {i : Nat} {c : Int} : l.findIdx? (refB t) = none → l.findIdx? (fun c => unitV t c != 0) = some i → PropTo l (tset t (unitV t (l.getD i []))) u c → PropTo l t u c
theorem PropTo.fn {l : List (List Int)} {t u v : List Int} {c d : Int} (h : PropTo l t u c) (k : PropTo l t v d) : u = v ∧ c = d := by
  induction h with
  | conf h1 =>
    cases k with
    | conf k1 => rw [h1] at k1; injection k1 with e; subst e; exact ⟨rfl, rfl⟩
    | stop k1 => rw [h1] at k1; cases k1
    | step k1 => rw [h1] at k1; cases k1
  | stop h1 h2 =>
    cases k with
    | conf k1 => rw [h1] at k1; cases k1
    | stop k1 => exact ⟨rfl, rfl⟩
    | step k1 k2 => rw [h2] at k2; cases k2
  | step h1 h2 _ ih =>
    cases k with
    | conf k1 => rw [h1] at k1; cases k1
    | stop k1 k2 => rw [h2] at k2; cases k2
    | step k1 k2 k3 => rw [h2] at k2; injection k2 with e; subst e; exact ih k3
end Go.Proofs.Ws.rsl
