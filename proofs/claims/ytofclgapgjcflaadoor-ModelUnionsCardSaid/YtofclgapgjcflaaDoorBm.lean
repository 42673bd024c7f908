import Derived.Lib.TrailingZeros
namespace Go.Proofs.Ws
open Go

/-- The worlds of a set, ascending. -/
def mem (s : Nat) : List Nat := (List.range 64).filter (fun w => s.testBit w)

/-- the lowest world -/
def low (s : Nat) : Nat := Lib.ctz 64 s

theorem low_form (s : Nat) (h0 : s ≠ 0) (h : s < 2 ^ 64) : ∃ m, s = 2 ^ low s * (2 * m + 1) ∧ low s < 64 := by
  unfold low Lib.ctz
  rw [if_neg h0]
  exact Lib.ctzFrom_spec 64 s (by omega) h

theorem testBit_form (k m i : Nat) : (2 ^ k * (2 * m + 1)).testBit i = (decide (k ≤ i) && (decide (i = k) || m.testBit (i - k - 1))) := by
  rw [Nat.mul_comm, Nat.testBit_mul_two_pow]
  by_cases h : k ≤ i
  · simp only [h, decide_true, Bool.true_and]
    by_cases e : i = k
    · subst e; simp [Nat.testBit_zero]
    · obtain ⟨j, rfl⟩ : ∃ j, i = k + (j + 1) := ⟨i - k - 1, by omega⟩
      have e3 : k + (j + 1) - k = j + 1 := by omega
      have e4 : k + (j + 1) - k - 1 = j := by omega
      rw [e3, Nat.testBit_succ]
      have d1 : (2 * m + 1) / 2 = m := by omega
      rw [d1]
      simp
  · simp [h]

theorem pred_form (k m : Nat) : 2 ^ k * (2 * m + 1) - 1 = 2 ^ (k + 1) * m + (2 ^ k - 1) := by
  have hp : 0 < 2 ^ k := Nat.two_pow_pos k
  have e : 2 ^ k * (2 * m + 1) = 2 ^ (k + 1) * m + 2 ^ k := by
    rw [Nat.mul_add, Nat.pow_succ, Nat.mul_one, Nat.mul_assoc]
  omega

theorem testBit_pred (k m i : Nat) : (2 ^ k * (2 * m + 1) - 1).testBit i = (decide (i < k) || (decide (k < i) && m.testBit (i - k - 1))) := by
  rw [pred_form]
  have hlt : 2 ^ k - 1 < 2 ^ (k + 1) := by
    have := Nat.two_pow_pos k
    rw [Nat.pow_succ]; omega
  rw [Nat.testBit_two_pow_mul_add _ hlt]
  by_cases h : i < k + 1
  · rw [if_pos h, Nat.testBit_two_pow_sub_one]
    by_cases h2 : i < k
    · simp [h2]
    · have : ¬ k < i := by omega
      simp [h2, this]
  · rw [if_neg h]
    have h1 : ¬ i < k := by omega
    have h2 : k < i := by omega
    have e : i - (k + 1) = i - k - 1 := by omega
    simp [h1, h2, e]

/-- clearing the lowest world -/
theorem clear_low (s : Nat) (h0 : s ≠ 0) (h : s < 2 ^ 64) (i : Nat) : (s &&& (s - 1)).testBit i = (s.testBit i && !decide (i = low s)) := by
  obtain ⟨m, hm, hk⟩ := low_form s h0 h
  generalize low s = k at hm hk
  subst hm
  rw [Nat.testBit_and, testBit_pred, testBit_form]
  by_cases h1 : i < k
  · have : ¬ k ≤ i := by omega
    simp [this]
  · by_cases h2 : i = k
    · subst h2; simp
    · have h3 : k < i := by omega
      have h4 : k ≤ i := by omega
      simp [h1, h2, h3, h4]

theorem testBit_low (s : Nat) (h0 : s ≠ 0) (h : s < 2 ^ 64) : s.testBit (low s) = true := by
  obtain ⟨m, hm, hk⟩ := low_form s h0 h
  generalize low s = k at hm hk
  subst hm
  rw [testBit_form]; simp

theorem testBit_below (s : Nat) (h0 : s ≠ 0) (h : s < 2 ^ 64) (i : Nat) (hi : i < low s) : s.testBit i = false := by
  obtain ⟨m, hm, hk⟩ := low_form s h0 h
  generalize low s = k at hm hk hi
  subst hm
  rw [testBit_form]
  have : ¬ k ≤ i := by omega
  simp [this]

theorem and_pred_lt (s : Nat) (h0 : s ≠ 0) : s &&& (s - 1) < s := by
  have := Nat.and_le_right (n := s) (m := s - 1)
  omega

theorem filter_least (p q : Nat → Bool) (n k : Nat) (hk : k < n) (hp : p k = true) (hb : ∀ i, i < k → p i = false) (hq : ∀ i, q i = (p i && !decide (i = k))) :
    (List.range n).filter p = k :: (List.range n).filter q := by
  have e : List.range n = List.range k ++ k :: (List.range' (k + 1) (n - k - 1)) := by
    rw [List.range_eq_range', List.range_eq_range']
    have : n = k + (1 + (n - k - 1)) := by omega
    conv => lhs; rw [this]
    rw [← List.range'_append_1, ← List.range'_append_1]
    simp
  have f1 : (List.range k).filter p = [] := by
    rw [List.filter_eq_nil_iff]; intro a ha; rw [hb a (List.mem_range.1 ha)]; simp
  have f2 : (List.range k).filter q = [] := by
    rw [List.filter_eq_nil_iff]; intro a ha; rw [hq, hb a (List.mem_range.1 ha)]; simp
  have f3 : (List.range' (k + 1) (n - k - 1)).filter p = (List.range' (k + 1) (n - k - 1)).filter q := by
    apply List.filter_congr
    intro a ha
    rw [hq]
    have : k + 1 ≤ a := (List.mem_range'_1.1 ha).1
    have : ¬ a = k := by omega
    simp [this]
  rw [e, List.filter_append, List.filter_append, f1, f2, List.filter_cons_of_pos hp, List.filter_cons_of_neg (by rw [hq]; simp), f3]
  simp

theorem mem_step (s : Nat) (h0 : s ≠ 0) (h : s < 2 ^ 64) : mem s = low s :: mem (s &&& (s - 1)) := by
  obtain ⟨m, hm, hk⟩ := low_form s h0 h
  exact filter_least _ _ 64 (low s) hk (testBit_low s h0 h) (testBit_below s h0 h) (clear_low s h0 h)

theorem mem_zero : mem 0 = [] := by
  unfold mem; rw [List.filter_eq_nil_iff]; intro a _; simp

theorem mem_length_le (s : Nat) : (mem s).length ≤ 64 := by
  unfold mem
  have := List.length_filter_le (fun w => s.testBit w) (List.range 64)
  simpa using this

theorem mem_lt (s : Nat) (w : Nat) (h : w ∈ mem s) : w < 64 := by
  unfold mem at h
  exact List.mem_range.1 (List.mem_filter.1 h).1

end Go.Proofs.Ws
