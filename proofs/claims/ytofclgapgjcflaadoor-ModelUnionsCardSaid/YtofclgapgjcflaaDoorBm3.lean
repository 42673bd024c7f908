/- The subsets of a set by their numbers; the next set of the same size: the arithmetic (no program in sight). -/
import Derived.Test.YtofclgapgjcflaaDoorBm2
namespace Go.Proofs.Ws

/-- the set of those worlds of a list whose places are the bits of i -/
def subL : List Nat → Nat → Nat
  | [], _ => 0
  | w :: l, i => (if i % 2 = 1 then 2 ^ w else 0) ||| subL l (i / 2)

theorem div_pow_succ (i k : Nat) : i / 2 ^ (k + 1) = i / 2 / 2 ^ k := by rw [Nat.pow_succ, Nat.mul_comm, Nat.div_div_eq_div_mul]

/-- the lowest bit of a set, as the program finds it -/
theorem neg_low (s : Nat) (h0 : s ≠ 0) (h : s < 18446744073709551616) : s &&& (18446744073709551616 - s) = 2 ^ low s := (Lib.lowest_bit 64 s h0 h).1

/-- A set as a block of worlds, and what lies above it. -/
theorem block_form (s : Nat) (h0 : s ≠ 0) (h : s < 2 ^ 64) : ∃ b hi, 1 ≤ b ∧ s = hi * 2 ^ (low s + b + 1) + (2 ^ b - 1) * 2 ^ low s := by
  obtain ⟨m, hm, hk⟩ := low_form s h0 h
  generalize low s = a at *
  have h1 : m + 1 ≠ 0 := by omega
  obtain ⟨j, hj⟩ : ∃ j, m + 1 < 2 ^ j := ⟨m + 1, Nat.lt_two_pow_self⟩
  obtain ⟨hi, e, _⟩ := Lib.ctzFrom_spec j (m + 1) (by omega) hj
  generalize Lib.ctzFrom j (m + 1) = t at e
  refine ⟨t + 1, hi, by omega, ?_⟩
  have hp : 0 < 2 ^ t := Nat.two_pow_pos t
  have e2 : 2 * m + 1 = hi * 2 ^ (t + 2) + (2 ^ (t + 1) - 1) := by
    have x1 : 2 ^ (t + 1) = 2 * 2 ^ t := by rw [Nat.pow_succ, Nat.mul_comm]
    have x2 : hi * 2 ^ (t + 2) = 4 * (hi * 2 ^ t) := by rw [Nat.pow_add, ← Nat.mul_assoc, Nat.mul_comm]
    have x3 : 2 ^ t * (2 * hi + 1) = 2 * (hi * 2 ^ t) + 2 ^ t := by rw [Nat.mul_add, Nat.mul_one, Nat.mul_left_comm, Nat.mul_comm (2 ^ t) hi]
    rw [x1, x2]
    omega
  rw [hm, e2, Nat.mul_comm, Nat.add_mul, Nat.mul_assoc, ← Nat.pow_add]
  congr 3
  omega
end Go.Proofs.Ws
