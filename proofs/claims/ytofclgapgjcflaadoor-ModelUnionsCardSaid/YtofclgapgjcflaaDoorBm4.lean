/- The next set of the same size, by arithmetic, and by the lowest world that can move up (no program in sight). -/
import Derived.Test.YtofclgapgjcflaaDoorBm3
namespace Go.Proofs.Ws

/-- the next set by arithmetic -/
def gos (s : Nat) : Nat := (s + 2 ^ low s) ||| ((s ^^^ (s + 2 ^ low s)) / 2 ^ (low s + 2))
/-- the next set of as many worlds below n, and whether there is one -/
def nextV (n : Int) (s : Nat) : Nat × Bool :=
  if 0 ≤ n ∧ n ≤ 64 ∧ s ≠ 0 ∧ s < 2 ^ n.toNat ∧ s + 2 ^ low s < 2 ^ n.toNat then (gos s, true) else (0, false)

theorem gos_lt (n s : Nat) (h1 : s < 2 ^ n) (h2 : s + 2 ^ low s < 2 ^ n) : gos s < 2 ^ n :=
  Nat.or_lt_two_pow h2 (Nat.lt_of_le_of_lt (Nat.div_le_self _ _) (Nat.xor_lt_two_pow h1 h2))
theorem gos_ge (s : Nat) : s + 2 ^ low s ≤ gos s := Nat.left_le_or

theorem add_low_le (s : Nat) (h0 : s ≠ 0) (h : s < 2 ^ 64) : s + 2 ^ low s ≤ 2 ^ 64 := by
  obtain ⟨m, hm, hk⟩ := low_form s h0 h
  generalize low s = k at *
  obtain ⟨d, hd⟩ : ∃ d, 64 = k + d := ⟨64 - k, by omega⟩
  rw [hd, Nat.pow_add] at h ⊢
  subst hm
  have h2 := Nat.lt_of_mul_lt_mul_left h
  have h3 : 2 ^ k * (2 * m + 1 + 1) ≤ 2 ^ k * 2 ^ d := Nat.mul_le_mul_left _ h2
  rw [Nat.mul_add (2 ^ k) (2 * m + 1) 1, Nat.mul_one] at h3
  exact h3

theorem block_lt (a b : Nat) : (2 ^ b - 1) * 2 ^ a < 2 ^ (a + b) := by
  rw [Nat.pow_add, Nat.mul_comm]
  exact Nat.mul_lt_mul_of_pos_left (by have := Nat.two_pow_pos b; omega) (Nat.two_pow_pos a)

theorem block_bit (a b i : Nat) : ((2 ^ b - 1) * 2 ^ a).testBit i = (decide (a ≤ i) && decide (i < a + b)) := by
  rw [Nat.testBit_mul_two_pow, Nat.testBit_two_pow_sub_one]
  by_cases h : a ≤ i
  · simp only [h, decide_true, Bool.true_and]
    exact decide_eq_decide.2 (by omega)
  · simp [h]

theorem set_bit (a b hi i : Nat) : (hi * 2 ^ (a + b + 1) + (2 ^ b - 1) * 2 ^ a).testBit i = ((decide (a ≤ i) && decide (i < a + b)) || (decide (a + b < i) && hi.testBit (i - (a + b + 1)))) := by
  have hlt : (2 ^ b - 1) * 2 ^ a < 2 ^ (a + b + 1) := Nat.lt_trans (block_lt a b) (Nat.pow_lt_pow_right (by decide) (by omega))
  rw [Nat.mul_comm hi, Nat.testBit_two_pow_mul_add _ hlt]
  by_cases h : i < a + b + 1
  · rw [if_pos h, block_bit]
    have : ¬ (a + b < i) := by omega
    simp [this]
  · rw [if_neg h]
    have h1 : ¬ (i < a + b) := by omega
    have h2 : a + b < i := by omega
    simp [h1, h2]

theorem moved_eq (a b hi : Nat) : hi * 2 ^ (a + b + 1) + (2 ^ b - 1) * 2 ^ a + 2 ^ a = hi * 2 ^ (a + b + 1) + 2 ^ (a + b) := by
  have hp := Nat.two_pow_pos b
  have : (2 ^ b - 1) * 2 ^ a + 2 ^ a = 2 ^ (a + b) := by
    rw [Nat.pow_add, Nat.mul_comm (2 ^ a)]
    obtain ⟨q, hq⟩ : ∃ q, 2 ^ b = q + 1 := ⟨2 ^ b - 1, by omega⟩
    rw [hq, Nat.add_sub_cancel, Nat.add_mul, Nat.one_mul]
  omega

theorem moved_bit (a b hi i : Nat) : (hi * 2 ^ (a + b + 1) + 2 ^ (a + b)).testBit i = (decide (i = a + b) || (decide (a + b < i) && hi.testBit (i - (a + b + 1)))) := by
  have hlt : 2 ^ (a + b) < 2 ^ (a + b + 1) := Nat.pow_lt_pow_right (by decide) (by omega)
  rw [Nat.mul_comm hi, Nat.testBit_two_pow_mul_add _ hlt]
  by_cases h : i < a + b + 1
  · rw [if_pos h, Nat.testBit_two_pow]
    have h2 : ¬ (a + b < i) := by omega
    simp only [h2, decide_false, Bool.false_and, Bool.or_false]
    exact decide_eq_decide.2 (by omega)
  · rw [if_neg h]
    have h1 : ¬ (i = a + b) := by omega
    have h2 : a + b < i := by omega
    simp [h1, h2]

/-- the arithmetic and the slow way come to one set -/
theorem gos_form (s b hi : Nat) (hb : 1 ≤ b) (hs : s = hi * 2 ^ (low s + b + 1) + (2 ^ b - 1) * 2 ^ low s) (hlt : low s + b < 64) (h64 : s < 18446744073709551616) :
    gos s = ((s &&& (18446744073709551615 - (2 ^ (low s + b + 1) - 1))) ||| 2 ^ (low s + b)) ||| (2 ^ (b - 1) - 1) := by
  have e : gos s = (s + 2 ^ low s) ||| ((s ^^^ (s + 2 ^ low s)) / 2 ^ (low s + 2)) := rfl
  rw [e]
  generalize low s = a at *
  have hm : s + 2 ^ a = hi * 2 ^ (a + b + 1) + 2 ^ (a + b) := by rw [hs]; exact moved_eq a b hi
  have hmask : ∀ i, (18446744073709551615 - (2 ^ (a + b + 1) - 1)).testBit i = (decide (i < 64) && !decide (i < a + b + 1)) := by
    intro i
    have x : 2 ^ (a + b + 1) ≤ 2 ^ 64 := Nat.pow_le_pow_right (by decide) (by omega)
    have y := Nat.two_pow_pos (a + b + 1)
    have z := Nat.testBit_two_pow_sub_succ (x := 2 ^ (a + b + 1) - 1) (n := 64) (by omega) i
    rw [show 2 ^ 64 - (2 ^ (a + b + 1) - 1 + 1) = 18446744073709551615 - (2 ^ (a + b + 1) - 1) from by omega, Nat.testBit_two_pow_sub_one] at z
    exact z
  have hs64 : ∀ i, 64 ≤ i → s.testBit i = false := fun i hi => Nat.testBit_lt_two_pow (Nat.lt_of_lt_of_le h64 (Nat.pow_le_pow_right (by decide) hi : 2 ^ 64 ≤ 2 ^ i))
  apply Nat.eq_of_testBit_eq
  intro i
  have hb64 : ∀ i, 64 ≤ i → a + b < i → hi.testBit (i - (a + b + 1)) = false := by
    intro i h1 h2
    have := hs64 i h1
    rw [hs, set_bit] at this
    have h3 : ¬ (i < a + b) := by omega
    simpa [h2, h3] using this
  rw [hm, Nat.testBit_or, Nat.testBit_or, Nat.testBit_or, Nat.testBit_and, hmask, Nat.testBit_div_two_pow, Nat.testBit_xor, moved_bit, moved_bit, hs, set_bit, set_bit, Nat.testBit_two_pow, Nat.testBit_two_pow_sub_one]
  by_cases h1 : i < a + b + 1
  · have h2 : ¬ (a + b < i) := by omega
    by_cases h3 : i = a + b
    · subst h3
      simp
    · have h3' : ¬ (a + b = i) := by omega
      have h4 : ¬ (i + (a + 2) < a) := by omega
      simp only [h1, h2, h3, h3', decide_true, decide_false, Bool.not_true, Bool.and_false, Bool.false_and, Bool.or_false, Bool.false_or]
      by_cases h5 : i < b - 1
      · have h6 : a ≤ i + (a + 2) := by omega
        simp only [h5, decide_true]
        by_cases h7 : i + (a + 2) < a + b
        · have h8 : ¬ (i + (a + 2) = a + b) := by omega
          have h9 : ¬ (a + b < i + (a + 2)) := by omega
          simp [h6, h7, h8, h9]
        · have h8 : i + (a + 2) = a + b := by omega
          have h9 : ¬ (a + b < i + (a + 2)) := by omega
          simp [h8]
      · simp only [h5, decide_false]
        have h7 : ¬ (i + (a + 2) < a + b) := by omega
        have h8 : ¬ (i + (a + 2) = a + b) := by omega
        have h9 : a + b < i + (a + 2) := by omega
        simp [h7, h8, h9]
  · have h2 : a + b < i := by omega
    have h3 : ¬ (i = a + b) := by omega
    have h3' : ¬ (a + b = i) := by omega
    have h4 : ¬ (i < a + b) := by omega
    have h5 : ¬ (i < b - 1) := by omega
    have h7 : ¬ (i + (a + 2) < a + b) := by omega
    have h8 : ¬ (i + (a + 2) = a + b) := by omega
    have h9 : a + b < i + (a + 2) := by omega
    simp only [h1, h2, h3, h3', h4, h5, h7, h8, h9, decide_true, decide_false, Bool.and_false, Bool.false_or, Bool.true_and, Bool.not_false, Bool.or_false, Bool.and_true, Bool.xor_self]
    by_cases h64' : i < 64
    · simp [h64']
    · simp [hb64 i (by omega) h2]

/-- what the loop by the slow way knows of the set -/
theorem walk_bits (s b hi : Nat) (hb : 1 ≤ b) (hs : s = hi * 2 ^ (low s + b + 1) + (2 ^ b - 1) * 2 ^ low s) :
    (∀ i, i < low s → s.testBit i = false) ∧ (∀ i, low s ≤ i → i < low s + b → s.testBit i = true) ∧ s.testBit (low s + b) = false := by
  generalize low s = a at *
  refine ⟨fun i h => ?_, fun i h1 h2 => ?_, ?_⟩
  · rw [hs, set_bit]
    have h1 : ¬ (a ≤ i) := by omega
    have h2 : ¬ (a + b < i) := by omega
    simp [h1, h2]
  · rw [hs, set_bit]
    simp [h1, h2]
  · rw [hs, set_bit]
    simp

theorem moved_lt (s b hi n : Nat) (hs : s = hi * 2 ^ (low s + b + 1) + (2 ^ b - 1) * 2 ^ low s) (hn : s < 2 ^ n) (h : low s + b < n) : s + 2 ^ low s < 2 ^ n := by
  generalize low s = a at *
  have hm : s + 2 ^ a = hi * 2 ^ (a + b + 1) + 2 ^ (a + b) := by rw [hs]; exact moved_eq a b hi
  rw [hm]
  obtain ⟨d, rfl⟩ : ∃ d, n = a + b + 1 + d := ⟨n - (a + b + 1), by omega⟩
  have h1 : hi * 2 ^ (a + b + 1) < 2 ^ (a + b + 1) * 2 ^ d := by rw [← Nat.pow_add]; omega
  rw [Nat.mul_comm] at h1
  have h2 := Nat.lt_of_mul_lt_mul_left h1
  have h3 : 2 ^ (a + b + 1) * (hi + 1) ≤ 2 ^ (a + b + 1) * 2 ^ d := Nat.mul_le_mul_left _ h2
  rw [Nat.mul_add, Nat.mul_one] at h3
  have h4 : 2 ^ (a + b) < 2 ^ (a + b + 1) := Nat.pow_lt_pow_right (by decide) (by omega)
  rw [Nat.pow_add 2 (a + b + 1) d, Nat.mul_comm hi]
  omega

theorem moved_ge (s b hi n : Nat) (hs : s = hi * 2 ^ (low s + b + 1) + (2 ^ b - 1) * 2 ^ low s) (h : n ≤ low s + b) : ¬ (s + 2 ^ low s < 2 ^ n) := by
  generalize low s = a at *
  have hm : s + 2 ^ a = hi * 2 ^ (a + b + 1) + 2 ^ (a + b) := by rw [hs]; exact moved_eq a b hi
  rw [hm]
  have : 2 ^ n ≤ 2 ^ (a + b) := Nat.pow_le_pow_right (by decide) h
  omega

/-- outside of the first n worlds lies nothing exactly if the number is below 2^n -/
theorem outside (s n : Nat) (hn : n ≤ 64) (hs : s < 18446744073709551616) : s &&& (18446744073709551615 - (2 ^ n - 1)) = 0 ↔ s < 2 ^ n := by
  have hmask : ∀ i, (18446744073709551615 - (2 ^ n - 1)).testBit i = (decide (i < 64) && !decide (i < n)) := by
    intro i
    have x : 2 ^ n ≤ 2 ^ 64 := Nat.pow_le_pow_right (by decide) hn
    have y := Nat.two_pow_pos n
    have z := Nat.testBit_two_pow_sub_succ (x := 2 ^ n - 1) (n := 64) (by omega) i
    rw [show 2 ^ 64 - (2 ^ n - 1 + 1) = 18446744073709551615 - (2 ^ n - 1) from by omega, Nat.testBit_two_pow_sub_one] at z
    exact z
  constructor
  · intro h
    apply Nat.lt_of_not_le
    intro hle
    obtain ⟨i, hi, hbit⟩ := Nat.exists_ge_and_testBit_of_ge_two_pow hle
    have h64 : i < 64 := by
      apply Nat.lt_of_not_le
      intro h6
      have := Nat.testBit_lt_two_pow (x := s) (i := i) (Nat.lt_of_lt_of_le hs (Nat.pow_le_pow_right (by decide) h6 : 2 ^ 64 ≤ 2 ^ i))
      rw [this] at hbit
      cases hbit
    have hz : (s &&& (18446744073709551615 - (2 ^ n - 1))).testBit i = false := by rw [h]; simp
    rw [Nat.testBit_and, hmask, hbit] at hz
    have : ¬ (i < n) := by omega
    simp [h64, this] at hz
  · intro h
    apply Nat.eq_of_testBit_eq
    intro i
    rw [Nat.testBit_and, hmask, Nat.zero_testBit]
    by_cases hi : i < n
    · simp [hi]
    · rw [Nat.testBit_lt_two_pow (Nat.lt_of_lt_of_le h (Nat.pow_le_pow_right (by decide) (by omega)))]
      simp
end Go.Proofs.Ws
