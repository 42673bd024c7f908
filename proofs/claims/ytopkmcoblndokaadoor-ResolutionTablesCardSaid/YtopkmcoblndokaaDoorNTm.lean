/- Layer 10: the search's steps as equations; the resolvent that Resolve returns (plain mathematics). -/
import Derived.Test.YtopkmcoblndokaaDoorNTl
namespace Go.Proofs.Ws.rsl
open Go
def optI : Option Nat → Int
  | some i => (i : Int)
  | none => -1
def inLn (c : List Int) (i : Nat) : Ln := ⟨c, -1, (i : Int), 0⟩
theorem refS_hit {n : Nat} {l : List (List Int)} {k V i : Nat} {s : List Ln} (h : l.findIdx? (fun c => decide (falseC V k c)) = some i) :
    refS n l k V s = (some (addLn s (inLn (l.getD i []) i)).1, (addLn s (inLn (l.getD i []) i)).2) := by
  cases k with
  | zero => unfold refS; rw [h]; rfl
  | succ k => unfold refS; rw [h]; rfl
theorem refS_zero {n : Nat} {l : List (List Int)} {V : Nat} {s : List Ln} (h : l.findIdx? (fun c => decide (falseC V 0 c)) = none) : refS n l 0 V s = (none, s) := by
  unfold refS; rw [h]
theorem refS_l0 {n : Nat} {l : List (List Int)} {k V : Nat} {s s1 : List Ln} (h : l.findIdx? (fun c => decide (falseC V (k + 1) c)) = none) (h0 : refS n l k (bit0 V k) s = (none, s1)) : refS n l (k + 1) V s = (none, s1) := by
  unfold refS; rw [h]; simp only [h0]
theorem refS_l1 {n : Nat} {l : List (List Int)} {k V a : Nat} {s s1 : List Ln} (h : l.findIdx? (fun c => decide (falseC V (k + 1) c)) = none) (h0 : refS n l k (bit0 V k) s = (some a, s1)) (hn : (k : Int) + 1 ∉ (s1.getD a ln0).cl) : refS n l (k + 1) V s = (some a, s1) := by
  unfold refS; rw [h]; simp only [h0]; rw [if_neg hn]
theorem refS_r0 {n : Nat} {l : List (List Int)} {k V a : Nat} {s s1 s2 : List Ln} (h : l.findIdx? (fun c => decide (falseC V (k + 1) c)) = none) (h0 : refS n l k (bit0 V k) s = (some a, s1)) (hp : (k : Int) + 1 ∈ (s1.getD a ln0).cl) (h1 : refS n l k (bit1 V k) s1 = (none, s2)) : refS n l (k + 1) V s = (none, s2) := by
  unfold refS; rw [h]; simp only [h0]; rw [if_pos hp]; simp only [h1]
theorem refS_r1 {n : Nat} {l : List (List Int)} {k V a b : Nat} {s s1 s2 : List Ln} (h : l.findIdx? (fun c => decide (falseC V (k + 1) c)) = none) (h0 : refS n l k (bit0 V k) s = (some a, s1)) (hp : (k : Int) + 1 ∈ (s1.getD a ln0).cl) (h1 : refS n l k (bit1 V k) s1 = (some b, s2)) (hn : -((k : Int) + 1) ∉ (s2.getD b ln0).cl) : refS n l (k + 1) V s = (some b, s2) := by
  unfold refS; rw [h]; simp only [h0]; rw [if_pos hp]; simp only [h1]; rw [if_neg hn]
def resLn (n k a b : Nat) (s : List Ln) : Ln := ⟨resF n (s.getD a ln0).cl (s.getD b ln0).cl ((k : Int) + 1), (a : Int), (b : Int), (k : Int)⟩
theorem refS_rr {n : Nat} {l : List (List Int)} {k V a b : Nat} {s s1 s2 : List Ln} (h : l.findIdx? (fun c => decide (falseC V (k + 1) c)) = none) (h0 : refS n l k (bit0 V k) s = (some a, s1)) (hp : (k : Int) + 1 ∈ (s1.getD a ln0).cl) (h1 : refS n l k (bit1 V k) s1 = (some b, s2)) (hn : -((k : Int) + 1) ∈ (s2.getD b ln0).cl) :
    refS n l (k + 1) V s = (some (addLn s2 (resLn n k a b s2)).1, (addLn s2 (resLn n k a b s2)).2) := by
  unfold refS; rw [h]; simp only [h0]; rw [if_pos hp]; simp only [h1]; rw [if_pos hn]; rfl
theorem ref_facts {n : Nat} {l : List (List Int)} (hl : ∀ c ∈ l, ClOk n c) {k V a : Nat} {s s1 : List Ln} (h1 : Lines n l s) (h2 : NoEmp s) (e : refS n l k V s = (some a, s1)) :
    Lines n l s1 ∧ a < s1.length ∧ ClOk n (s1.getD a ln0).cl ∧ falseC V k (s1.getD a ln0).cl ∧ ((s1.getD a ln0).cl ≠ [] → NoEmp s1) ∧ s <+: s1 := by
  have h := refS_ok hl k V s h1 h2
  have f := refC_ok hl k V
  rw [e] at h
  have hr := h.res
  revert f hr
  cases refC n l k V with
  | none => intro _ hr; exact hr.elim
  | some c =>
    intro f hr
    obtain ⟨hr1, hr2⟩ := hr
    have hr1 : a < s1.length := hr1
    have hr2 : (s1.getD a ln0).cl = c := hr2
    obtain ⟨f1, f2⟩ := f
    refine ⟨h.lines, hr1, by rw [hr2]; exact f1, by rw [hr2]; exact f2, fun hne => no_emp h.emp (fun i ei => ?_), h.pre⟩
    have ei : some a = some i := ei
    injection ei with ei
    rw [← ei]; exact hne
theorem getD_prefix {s s2 : List Ln} (h : s <+: s2) {a : Nat} (ha : a < s.length) : s2.getD a ln0 = s.getD a ln0 := by
  obtain ⟨r, rfl⟩ := h
  exact getL_app ha
theorem ClOk.mono {n m : Nat} {c : List Int} (h : ClOk n c) (hm : n ≤ m) : ClOk m c := ⟨fun x hx => ⟨(h.lits x hx).1, Nat.le_trans (h.lits x hx).2 hm⟩, h.sorted⟩
/-- where there is a resolvent, Resolve returns it -/
theorem res_same {n k : Nat} {a b : List Int} (hn : n ≤ 12) (hk : k < 12) (ha : ClOk n a) (hb : ClOk n b) (h : IsRes n a b ((k : Int) + 1) (resF n a b ((k : Int) + 1))) : resE a b (k : Int) = 0 ∧ resL a b (k : Int) = resF n a b ((k : Int) + 1) := by
  have hm : ∀ x, x ∈ resF n a b ((k : Int) + 1) ↔ x ∈ restL a b (k : Int) := fun x => by
    rw [h.mem]
    unfold restL
    rw [List.mem_append, List.mem_filter, List.mem_filter]
    simp
  have hal : alwB (restL a b (k : Int)) = false := by
    rw [← alw_congr hm, Bool.eq_false_iff]
    intro hx
    unfold alwB at hx
    obtain ⟨x, hx, hy⟩ := List.any_eq_true.1 hx
    rw [decide_eq_true_eq] at hy
    obtain ⟨i, hi, rfl⟩ := List.getElem_of_mem hx
    obtain ⟨j, hj, hje⟩ := List.getElem_of_mem hy
    have hp := List.pairwise_iff_getElem.1 h.ok.sorted
    have h0 := (h.ok.lits _ (List.getElem_mem hi)).1
    rcases Nat.lt_trichotomy i j with h1 | h1 | h1
    · have := hp i j hi hj h1; rw [hje, varOf_neg] at this; omega
    · subst h1; omega
    · have := hp j i hj hi h1; rw [hje, varOf_neg] at this; omega
  have hE : resE a b (k : Int) = 0 := by
    unfold resE
    rw [if_neg, if_neg, if_neg, if_neg]
    · rw [hal]; decide
    · rintro (h1 | h1)
      · exact h1 h.pa
      · exact h1 h.nb
    · omega
    · rintro (h1 | h1)
      · exact h1 (clE_ok (n := 12).2 (ha.mono hn))
      · exact h1 (clE_ok (n := 12).2 (hb.mono hn))
  refine ⟨hE, ?_⟩
  unfold resL
  rw [if_pos hE]
  exact (nrm_unique (rest_lits hn ha hb) ((litsL_sorted n).filter _) hm).symm
/-- the truth values of a case: the variables from k on are those of a valuation -/
def TVal (t : List Int) (V k n : Nat) : Prop := ∀ j, t.getD j 0 = if k ≤ j ∧ j < n then (if V.testBit j = true then (j : Int) + 1 else -((j : Int) + 1)) else 0
theorem TVal.refB {t : List Int} {V k n : Nat} (h : TVal t V k n) {c : List Int} (hc : ClOk n c) : refB t c = decide (falseC V k c) := by
  rw [Bool.eq_iff_iff, decide_eq_true_eq]
  unfold Ws.rsl.refB falseC
  rw [List.all_eq_true]
  refine forall_congr' fun x => forall_congr' fun hx => ?_
  have h0 := hc.lits x hx
  have hv : varOf x < n := by unfold varOf; omega
  unfold tget litT
  rw [h (varOf x), beq_iff_eq]
  by_cases hk : k ≤ varOf x
  · rw [if_pos ⟨hk, hv⟩]
    cases hb : V.testBit (varOf x) with
    | true =>
      rw [if_pos rfl]
      by_cases hp : 0 < x
      · rw [decide_eq_true hp]
        constructor
        · intro h1; unfold varOf at h1; omega
        · rintro ⟨_, h1⟩; cases h1
      · rw [decide_eq_false hp]
        constructor
        · intro _; exact ⟨hk, rfl⟩
        · intro _; unfold varOf; omega
    | false =>
      rw [if_neg (by decide)]
      by_cases hp : 0 < x
      · rw [decide_eq_true hp]
        constructor
        · intro _; exact ⟨hk, rfl⟩
        · intro _; unfold varOf; omega
      · rw [decide_eq_false hp]
        constructor
        · intro h1; unfold varOf at h1; omega
        · rintro ⟨_, h1⟩; cases h1
  · rw [if_neg (fun k2 => hk k2.1)]
    constructor
    · intro h1; omega
    · rintro ⟨h1, _⟩; exact absurd h1 hk
theorem findIdx_congr {α : Type} {p q : α → Bool} : ∀ {l : List α}, (∀ a ∈ l, p a = q a) → l.findIdx? p = l.findIdx? q
  | [], _ => rfl
  | a :: l, h => by
    rw [List.findIdx?_cons, List.findIdx?_cons, h a List.mem_cons_self, findIdx_congr (fun b hb => h b (List.mem_cons_of_mem _ hb))]
theorem set_get {t : List Int} {x : Int} {j : Nat} (hx : varOf x < t.length) : (tset t x).getD j 0 = if varOf x = j then x else t.getD j 0 := by
  unfold tset
  rw [List.getD_eq_getElem?_getD, List.getElem?_set]
  by_cases e : varOf x = j
  · rw [if_pos e, if_pos e, if_pos hx]; rfl
  · rw [if_neg e, if_neg e, ← List.getD_eq_getElem?_getD]
theorem TVal.step0 {t : List Int} {V k n : Nat} (h : TVal t V (k + 1) n) (ht : t.length = 12) (hn : n ≤ 12) (hk : k < n) : TVal (tset t (-((k : Int) + 1))) (bit0 V k) k n := fun j => by
  have hv : varOf (-((k : Int) + 1)) = k := by unfold varOf; omega
  rw [set_get (by rw [hv, ht]; omega), hv]
  by_cases e : k = j
  · subst e
    rw [if_pos rfl, if_pos ⟨Nat.le_refl _, hk⟩, if_neg (by unfold bit0; rw [clr_bit, if_pos rfl]; decide)]
  · rw [if_neg e, h j]
    by_cases h1 : k + 1 ≤ j ∧ j < n
    · rw [if_pos h1, if_pos (show k ≤ j ∧ j < n from ⟨by omega, h1.2⟩), bit0_high h1.1]
    · rw [if_neg h1, if_neg (by omega)]
theorem TVal.step1 {t : List Int} {V k n : Nat} (h : TVal t V (k + 1) n) (ht : t.length = 12) (hn : n ≤ 12) (hk : k < n) : TVal (tset t ((k : Int) + 1)) (bit1 V k) k n := fun j => by
  have hv : varOf ((k : Int) + 1) = k := by unfold varOf; omega
  rw [set_get (by rw [hv, ht]; omega), hv]
  by_cases e : k = j
  · subst e
    rw [if_pos rfl, if_pos ⟨Nat.le_refl _, hk⟩, if_pos (by rw [bit1_bit, if_pos rfl])]
  · rw [if_neg e, h j]
    by_cases h1 : k + 1 ≤ j ∧ j < n
    · rw [if_pos h1, if_pos (show k ≤ j ∧ j < n from ⟨by omega, h1.2⟩), bit1_high h1.1]
    · rw [if_neg h1, if_neg (by omega)]
theorem TVal.zero (n : Nat) : TVal t00 0 n n := fun j => by
  rw [t00_get, if_neg (by omega)]
end Go.Proofs.Ws.rsl
