/- All sets of k worlds below n (up to 12) are listed by the next set, each once: checked by evaluation. -/
import Derived.Test.YtnkjcieeckibbaaDoorBm4
namespace Go.Proofs.Ws
/-- the binomial coefficient as the law's loop computes it -/
def bin (n : Nat) : Nat → Nat
  | 0 => 1
  | i + 1 => bin n i * (n - i) / (i + 1)
/-- the next j sets from s on are as they should be, and there is none behind the last -/
def chk (n k : Nat) : Nat → Nat → Bool
  | 0, _ => true
  | j + 1, s => decide ((mem s).length = k) && decide (s < 2 ^ n) && ((nextV n s).2 == decide (0 < j)) && (decide (j = 0) || decide (s < (nextV n s).1)) && chk n k j (nextV n s).1
theorem bin_le (n i : Nat) (hn : n ≤ 12) (hi : i ≤ n) : bin n i ≤ 1000 ∧ 1 ≤ bin n i := by
  have H : ∀ n : Fin 13, ∀ i : Fin 13, i.1 ≤ n.1 → bin n.1 i.1 ≤ 1000 ∧ 1 ≤ bin n.1 i.1 := by decide +kernel
  exact H ⟨n, by omega⟩ ⟨i, by omega⟩ hi
theorem chk_fin : ∀ n : Fin 13, ∀ k : Fin 13, k.1 ≤ n.1 → chk n.1 k.1 (bin n.1 k.1) (2 ^ k.1 - 1) = true := by decide +kernel
theorem chk_all (n k : Nat) (hn : n ≤ 12) (hk : k ≤ n) : chk n k (bin n k) (2 ^ k - 1) = true := by
  have h := chk_fin ⟨n, by omega⟩ ⟨k, by omega⟩ hk
  simp only at h
  exact h
end Go.Proofs.Ws
