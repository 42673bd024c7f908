/- Layer 6: texts joined: Bm Bm2 Bm3 Bm4 Bm6 Aa Km Kp Ab Kpa Ea Ee Ef. -/
import Derived.Lib.TrailingZeros
import Derived.Test.YtopkmcoblndokaaDoorProg
import Derived.WalkKit
import Derived.ProofKit
import Derived.BigQuiet
import Derived.Deep.QuietTactic
import Derived.Laws.BitsAll
import Derived.Laws.BitsAllLaws
import Derived.Lib.Hide
import Derived.IntWalk
import Derived.Laws.Bits128
import Derived.Below
import Derived.Laws.OwnMore
import Derived.Deep.AppendLies
import Derived.Deep.Draws
import Derived.OwnWalk
import Derived.LoopTactic
import Derived.Lib.Builder
namespace Go.Proofs.Ws
open Go

/-- The worlds of a set, ascending. -/
def mem (s : Nat) : List Nat := (List.range 64).filter (fun w => s.testBit w)

/-- the lowest world -/
def low (s : Nat) : Nat := Lib.ctz 64 s

theorem low_form (s : Nat) (h0 : s ≠ 0) (h : s < 2 ^ 64) : ∃ m, s = 2 ^ low s * (2 * m + 1) ∧ low s < 64 := by
  unfold low Lib.ctz
  rw [if_neg h0]
  exact Lib.ctzFrom_spec 64 s (by omega) h

theorem testBit_form (k m i : Nat) : (2 ^ k * (2 * m + 1)).testBit i = (decide (k ≤ i) && (decide (i = k) || m.testBit (i - k - 1))) := by
  rw [Nat.mul_comm, Nat.testBit_mul_two_pow]
  by_cases h : k ≤ i
  · simp only [h, decide_true, Bool.true_and]
    by_cases e : i = k
    · subst e; simp [Nat.testBit_zero]
    · obtain ⟨j, rfl⟩ : ∃ j, i = k + (j + 1) := ⟨i - k - 1, by omega⟩
      have e3 : k + (j + 1) - k = j + 1 := by omega
      have e4 : k + (j + 1) - k - 1 = j := by omega
      rw [e3, Nat.testBit_succ]
      have d1 : (2 * m + 1) / 2 = m := by omega
      rw [d1]
      simp
  · simp [h]

theorem pred_form (k m : Nat) : 2 ^ k * (2 * m + 1) - 1 = 2 ^ (k + 1) * m + (2 ^ k - 1) := by
  have hp : 0 < 2 ^ k := Nat.two_pow_pos k
  have e : 2 ^ k * (2 * m + 1) = 2 ^ (k + 1) * m + 2 ^ k := by
    rw [Nat.mul_add, Nat.pow_succ, Nat.mul_one, Nat.mul_assoc]
  omega

theorem testBit_pred (k m i : Nat) : (2 ^ k * (2 * m + 1) - 1).testBit i = (decide (i < k) || (decide (k < i) && m.testBit (i - k - 1))) := by
  rw [pred_form]
  have hlt : 2 ^ k - 1 < 2 ^ (k + 1) := by
    have := Nat.two_pow_pos k
    rw [Nat.pow_succ]; omega
  rw [Nat.testBit_two_pow_mul_add _ hlt]
  by_cases h : i < k + 1
  · rw [if_pos h, Nat.testBit_two_pow_sub_one]
    by_cases h2 : i < k
    · simp [h2]
    · have : ¬ k < i := by omega
      simp [h2, this]
  · rw [if_neg h]
    have h1 : ¬ i < k := by omega
    have h2 : k < i := by omega
    have e : i - (k + 1) = i - k - 1 := by omega
    simp [h1, h2, e]

/-- clearing the lowest world -/
theorem clear_low (s : Nat) (h0 : s ≠ 0) (h : s < 2 ^ 64) (i : Nat) : (s &&& (s - 1)).testBit i = (s.testBit i && !decide (i = low s)) := by
  obtain ⟨m, hm, hk⟩ := low_form s h0 h
  generalize low s = k at hm hk
  subst hm
  rw [Nat.testBit_and, testBit_pred, testBit_form]
  by_cases h1 : i < k
  · have : ¬ k ≤ i := by omega
    simp [this]
  · by_cases h2 : i = k
    · subst h2; simp
    · have h3 : k < i := by omega
      have h4 : k ≤ i := by omega
      simp [h1, h2, h3, h4]

theorem testBit_low (s : Nat) (h0 : s ≠ 0) (h : s < 2 ^ 64) : s.testBit (low s) = true := by
  obtain ⟨m, hm, hk⟩ := low_form s h0 h
  generalize low s = k at hm hk
  subst hm
  rw [testBit_form]; simp

theorem testBit_below (s : Nat) (h0 : s ≠ 0) (h : s < 2 ^ 64) (i : Nat) (hi : i < low s) : s.testBit i = false := by
  obtain ⟨m, hm, hk⟩ := low_form s h0 h
  generalize low s = k at hm hk hi
  subst hm
  rw [testBit_form]
  have : ¬ k ≤ i := by omega
  simp [this]

theorem and_pred_lt (s : Nat) (h0 : s ≠ 0) : s &&& (s - 1) < s := by
  have := Nat.and_le_right (n := s) (m := s - 1)
  omega

theorem filter_least (p q : Nat → Bool) (n k : Nat) (hk : k < n) (hp : p k = true) (hb : ∀ i, i < k → p i = false) (hq : ∀ i, q i = (p i && !decide (i = k))) :
    (List.range n).filter p = k :: (List.range n).filter q := by
  have e : List.range n = List.range k ++ k :: (List.range' (k + 1) (n - k - 1)) := by
    rw [List.range_eq_range', List.range_eq_range']
    have : n = k + (1 + (n - k - 1)) := by omega
    conv => lhs; rw [this]
    rw [← List.range'_append_1, ← List.range'_append_1]
    simp
  have f1 : (List.range k).filter p = [] := by
    rw [List.filter_eq_nil_iff]; intro a ha; rw [hb a (List.mem_range.1 ha)]; simp
  have f2 : (List.range k).filter q = [] := by
    rw [List.filter_eq_nil_iff]; intro a ha; rw [hq, hb a (List.mem_range.1 ha)]; simp
  have f3 : (List.range' (k + 1) (n - k - 1)).filter p = (List.range' (k + 1) (n - k - 1)).filter q := by
    apply List.filter_congr
    intro a ha
    rw [hq]
    have : k + 1 ≤ a := (List.mem_range'_1.1 ha).1
    have : ¬ a = k := by omega
    simp [this]
  rw [e, List.filter_append, List.filter_append, f1, f2, List.filter_cons_of_pos hp, List.filter_cons_of_neg (by rw [hq]; simp), f3]
  simp

theorem mem_step (s : Nat) (h0 : s ≠ 0) (h : s < 2 ^ 64) : mem s = low s :: mem (s &&& (s - 1)) := by
  obtain ⟨m, hm, hk⟩ := low_form s h0 h
  exact filter_least _ _ 64 (low s) hk (testBit_low s h0 h) (testBit_below s h0 h) (clear_low s h0 h)

theorem mem_zero : mem 0 = [] := by
  unfold mem; rw [List.filter_eq_nil_iff]; intro a _; simp

theorem mem_length_le (s : Nat) : (mem s).length ≤ 64 := by
  unfold mem
  have := List.length_filter_le (fun w => s.testBit w) (List.range 64)
  simpa using this

theorem mem_lt (s : Nat) (w : Nat) (h : w ∈ mem s) : w < 64 := by
  unfold mem at h
  exact List.mem_range.1 (List.mem_filter.1 h).1

end Go.Proofs.Ws
/- How many bits are set: the arithmetic of the word-parallel count, byte by byte (no program in sight). -/
namespace Go.Proofs.Ws

def cnt : Nat → Nat → Nat
  | 0, _ => 0
  | k + 1, s => s % 2 + cnt k (s / 2)

theorem filter_len (k : Nat) : ∀ s : Nat, ((List.range k).filter (fun w => s.testBit w)).length = cnt k s := by
  induction k with
  | zero => intro s; rfl
  | succ k ih =>
    intro s
    rw [List.range_succ_eq_map, List.filter_cons]
    have e : (List.filter (fun w => s.testBit w) (List.map Nat.succ (List.range k))).length = cnt k (s / 2) := by
      rw [List.filter_map, List.length_map, ← ih (s / 2)]
      congr 2
      funext w
      simp [Nat.testBit_succ]
    have h2 : s % 2 = 0 ∨ s % 2 = 1 := by omega
    rw [cnt]
    rcases h2 with h2 | h2
    · rw [if_neg (by simp [Nat.testBit_zero, h2]), e, h2]; omega
    · rw [if_pos (by simp [Nat.testBit_zero, h2]), List.length_cons, e, h2]; omega

theorem mem_cnt (s : Nat) : (mem s).length = cnt 64 s := filter_len 64 s

theorem cnt_byte (k s : Nat) : cnt (8 + k) s = cnt 8 (s % 256) + cnt k (s / 256) := by
  rw [Nat.add_comm]
  simp only [cnt, Nat.div_div_eq_div_mul, Nat.reduceMul]
  have e0 : s % 256 % 2 = s % 2 := by omega
  have e1 : s % 256 / 2 % 2 = s / 2 % 2 := by omega
  have e2 : s % 256 / 4 % 2 = s / 4 % 2 := by omega
  have e3 : s % 256 / 8 % 2 = s / 8 % 2 := by omega
  have e4 : s % 256 / 16 % 2 = s / 16 % 2 := by omega
  have e5 : s % 256 / 32 % 2 = s / 32 % 2 := by omega
  have e6 : s % 256 / 64 % 2 = s / 64 % 2 := by omega
  have e7 : s % 256 / 128 % 2 = s / 128 % 2 := by omega
  rw [e0, e1, e2, e3, e4, e5, e6, e7]
  simp only [Nat.add_assoc, Nat.add_zero]

def M (c : Nat) : Nat → Nat
  | 0 => 0
  | n + 1 => c + 256 * M c n

theorem and_split (a b c d : Nat) (ha : a < 256) (hc : c < 256) : (a + 256 * b) &&& (c + 256 * d) = (a &&& c) + 256 * (b &&& d) := by
  have ha' : a < 2 ^ 8 := ha
  have hc' : c < 2 ^ 8 := hc
  have hac : a &&& c < 2 ^ 8 := Nat.lt_of_le_of_lt Nat.and_le_left ha'
  apply Nat.eq_of_testBit_eq
  intro i
  rw [show a + 256 * b = 2 ^ 8 * b + a from by omega, show c + 256 * d = 2 ^ 8 * d + c from by omega, show (a &&& c) + 256 * (b &&& d) = 2 ^ 8 * (b &&& d) + (a &&& c) from by omega]
  rw [Nat.testBit_and, Nat.testBit_two_pow_mul_add _ ha', Nat.testBit_two_pow_mul_add _ hc', Nat.testBit_two_pow_mul_add _ hac]
  by_cases h : i < 8 <;> simp [h, Nat.testBit_and]

def g1 (y : Nat) : Nat := (y / 2 &&& 85) + (y &&& 85)
def g2 (y : Nat) : Nat := (y / 4 &&& 51) + (y &&& 51)
def g3 (y : Nat) : Nat := (y / 16 + y) &&& 15
theorem t1 : ∀ y : Fin 256, ∀ c : Fin 2, (y.1 / 2 + 128 * c.1) &&& 85 = y.1 / 2 &&& 85 := by decide +kernel
theorem t2 : ∀ y : Fin 256, ∀ c : Fin 4, (y.1 / 4 + 64 * c.1) &&& 51 = y.1 / 4 &&& 51 := by decide +kernel
theorem b1 : ∀ y : Fin 256, g1 y.1 < 256 := by decide +kernel
theorem b2 : ∀ y : Fin 256, g2 (g1 y.1) % 16 ≤ 4 ∧ g2 (g1 y.1) / 16 ≤ 4 ∧ g2 (g1 y.1) < 256 := by decide +kernel
theorem b3 : ∀ y : Fin 256, g3 (g2 (g1 y.1)) = cnt 8 y.1 ∧ cnt 8 y.1 ≤ 8 := by decide +kernel

def F1 (n s : Nat) : Nat := (s / 2 &&& M 85 n) + (s &&& M 85 n)
def F2 (n s : Nat) : Nat := (s / 4 &&& M 51 n) + (s &&& M 51 n)
def F3 (n s : Nat) : Nat := (s / 16 + s) &&& M 15 n

theorem F1_step (n y b : Nat) (hy : y < 256) : F1 (n + 1) (y + 256 * b) = g1 y + 256 * F1 n b := by
  unfold F1 g1
  have e : (y + 256 * b) / 2 = (y / 2 + 128 * (b % 2)) + 256 * (b / 2) := by omega
  have h := t1 ⟨y, hy⟩ ⟨b % 2, by omega⟩
  simp only at h
  rw [e, M, and_split _ _ _ _ (by omega) (by omega), and_split _ _ _ _ hy (by omega), h]
  omega
theorem F2_step (n y b : Nat) (hy : y < 256) : F2 (n + 1) (y + 256 * b) = g2 y + 256 * F2 n b := by
  unfold F2 g2
  have e : (y + 256 * b) / 4 = (y / 4 + 64 * (b % 4)) + 256 * (b / 4) := by omega
  have h := t2 ⟨y, hy⟩ ⟨b % 4, by omega⟩
  simp only at h
  rw [e, M, and_split _ _ _ _ (by omega) (by omega), and_split _ _ _ _ hy (by omega), h]
  omega
theorem and15 (x : Nat) : x &&& 15 = x % 16 := Nat.and_two_pow_sub_one_eq_mod x 4
theorem F3_step (n y b : Nat) (h1 : y % 16 ≤ 4) (h2 : y / 16 ≤ 4) (h3 : b % 16 ≤ 4) : F3 (n + 1) (y + 256 * b) = g3 y + 256 * F3 n b := by
  unfold F3 g3
  have e : (y + 256 * b) / 16 + (y + 256 * b) = (y / 16 + y + 16 * (b % 16)) + 256 * (b / 16 + b) := by omega
  have h : (y / 16 + y + 16 * (b % 16)) &&& 15 = (y / 16 + y) &&& 15 := by rw [and15, and15]; omega
  rw [e, M, and_split _ _ _ _ (by omega) (by omega), h]

theorem step' (n s : Nat) : F3 (n + 1) (F2 (n + 1) (F1 (n + 1) s)) = cnt 8 (s % 256) + 256 * F3 n (F2 n (F1 n (s / 256))) := by
  have h : ∀ m t : Nat, F2 m (F1 m t) % 16 ≤ 4 := by
    intro m t
    cases m with
    | zero => simp [F2, F1, M]
    | succ m =>
      have h1 : t = t % 256 + 256 * (t / 256) := by omega
      have hb := b2 ⟨t % 256, by omega⟩
      have hb1 := b1 ⟨t % 256, by omega⟩
      simp only at hb hb1
      rw [h1, F1_step _ _ _ (by omega), F2_step _ _ _ hb1]
      omega
  have hy : s % 256 < 256 := by omega
  have hb1 := b1 ⟨s % 256, hy⟩
  have hb2 := b2 ⟨s % 256, hy⟩
  have hb3 := b3 ⟨s % 256, hy⟩
  simp only at hb1 hb2 hb3
  have h1 : s = s % 256 + 256 * (s / 256) := by omega
  conv => lhs; rw [h1]
  rw [F1_step _ _ _ hy, F2_step _ _ _ hb1, F3_step _ _ _ hb2.1 hb2.2.1 (h _ _), hb3.1]

theorem cnt8_le (s : Nat) : cnt 8 (s % 256) ≤ 8 := (b3 ⟨s % 256, by omega⟩).2

theorem M85 : M 85 8 = 6148914691236517205 := by decide +kernel
theorem M51 : M 51 8 = 3689348814741910323 := by decide +kernel
theorem M15 : M 15 8 = 1085102592571150095 := by decide +kernel

theorem fin_len (x y : Nat) (hx : x < 4294967296) (hy : y < 268435456) : (x + 4294967296 * y) / 4294967296 = y ∧ x + 4294967296 * y < 18446744073709551616 ∧ x + 4294967296 * y + y < 9223372036854775808 ∧ (x + 4294967296 * y + y) % 128 = (x + y) % 128 := by
  refine ⟨?_, ?_, ?_, ?_⟩ <;> omega
theorem fin_mod (d0 d4 u v : Nat) (h : d0 + d4 ≤ 64) : (d0 + 256 * u + (d4 + 256 * v)) % 128 = d0 + d4 := by omega
theorem two_step (c0 c1 r : Nat) (h0 : c0 ≤ 16) (h1 : c1 ≤ 16) : (c0 + 256 * (c1 + 256 * r)) / 65536 = r := by omega
theorem one_step (c0 r : Nat) (h0 : c0 ≤ 8) : (c0 + 256 * r) / 256 = r := by omega

/-- the last three steps over eight small bytes -/
theorem tail (c0 c1 c2 c3 c4 c5 c6 c7 a3 : Nat) (l0 : c0 ≤ 8) (l1 : c1 ≤ 8) (l2 : c2 ≤ 8) (l3 : c3 ≤ 8) (l4 : c4 ≤ 8) (l5 : c5 ≤ 8) (l6 : c6 ≤ 8) (l7 : c7 ≤ 8)
    (e : a3 = c0 + 256 * (c1 + 256 * (c2 + 256 * (c3 + 256 * (c4 + 256 * (c5 + 256 * (c6 + 256 * c7))))))) :
    ∃ a4 a5 a6, a4 = a3 + a3 / 256 ∧ a5 = a4 + a4 / 65536 ∧ a6 = a5 + a5 / 4294967296 ∧ a3 < 18446744073709551616 ∧ a4 < 18446744073709551616 ∧ a5 < 18446744073709551616 ∧ a6 < 9223372036854775808 ∧ a6 % 128 = c0 + (c1 + (c2 + (c3 + (c4 + (c5 + (c6 + c7)))))) := by
  have q3 : a3 / 256 = c1 + 256 * (c2 + 256 * (c3 + 256 * (c4 + 256 * (c5 + 256 * (c6 + 256 * c7))))) := by rw [e]; exact one_step _ _ l0
  have p4 : a3 + a3 / 256 = (c0 + c1) + 256 * ((c1 + c2) + 256 * ((c2 + c3) + 256 * ((c3 + c4) + 256 * ((c4 + c5) + 256 * ((c5 + c6) + 256 * ((c6 + c7) + 256 * c7)))))) := by rw [q3, e]; clear q3 e; omega
  have h3 : a3 < 18446744073709551616 := by rw [e]; clear e q3 p4; omega
  have h4 : a3 + a3 / 256 < 18446744073709551616 := by rw [p4]; clear e q3 p4 h3; omega
  clear e q3
  have q4 : (a3 + a3 / 256) / 65536 = (c2 + c3) + 256 * ((c3 + c4) + 256 * ((c4 + c5) + 256 * ((c5 + c6) + 256 * ((c6 + c7) + 256 * c7)))) := by rw [p4]; exact two_step _ _ _ (by omega) (by omega)
  have p5 : (a3 + a3 / 256) + (a3 + a3 / 256) / 65536 = (c0 + c1 + c2 + c3 + 256 * (c1 + c2 + c3 + c4 + 256 * (c2 + c3 + c4 + c5 + 256 * (c3 + c4 + c5 + c6)))) + 4294967296 * (c4 + c5 + c6 + c7 + 256 * (c5 + c6 + c7 + 256 * (c6 + c7 + 256 * c7))) := by rw [q4, p4]; clear q4 p4 h3 h4; omega
  obtain ⟨f1, f2, f3, f4⟩ := fin_len (c0 + c1 + c2 + c3 + 256 * (c1 + c2 + c3 + c4 + 256 * (c2 + c3 + c4 + c5 + 256 * (c3 + c4 + c5 + c6)))) (c4 + c5 + c6 + c7 + 256 * (c5 + c6 + c7 + 256 * (c6 + c7 + 256 * c7))) (by clear p4 p5 q4 h3 h4; omega) (by clear p4 p5 q4 h3 h4; omega)
  rw [fin_mod _ _ _ _ (by clear p4 p5 q4 h3 h4 f1 f2 f3 f4; omega)] at f4
  rw [← p5] at f1 f2
  refine ⟨_, _, _, rfl, rfl, rfl, h3, h4, f2, ?_, ?_⟩
  · rw [f1, p5]; exact f3
  · rw [f1, p5, f4]; clear p4 p5 q4 h3 h4 f1 f2 f3 f4; omega

/-- what the six steps come to: every step fits a word; the last seven bits are the count -/
theorem swar (s : Nat) : ∃ a1 a2 a3 a4 a5 a6 : Nat,
    a1 = (s / 2 &&& 6148914691236517205) + (s &&& 6148914691236517205) ∧ a2 = (a1 / 4 &&& 3689348814741910323) + (a1 &&& 3689348814741910323) ∧
    a3 = (a2 / 16 + a2) &&& 1085102592571150095 ∧ a4 = a3 + a3 / 256 ∧ a5 = a4 + a4 / 65536 ∧ a6 = a5 + a5 / 4294967296 ∧
    a1 < 18446744073709551616 ∧ a2 / 16 + a2 < 18446744073709551616 ∧ a3 < 18446744073709551616 ∧ a4 < 18446744073709551616 ∧ a5 < 18446744073709551616 ∧ a6 < 9223372036854775808 ∧ a6 % 128 = (mem s).length := by
  have k1 : F1 8 s ≤ 2 * M 85 8 := by
    unfold F1; have h1 : s / 2 &&& M 85 8 ≤ M 85 8 := Nat.and_le_right; have h2 : s &&& M 85 8 ≤ M 85 8 := Nat.and_le_right; omega
  have k2 : F2 8 (F1 8 s) ≤ 2 * M 51 8 := by
    generalize F1 8 s = t; unfold F2; have h1 : t / 4 &&& M 51 8 ≤ M 51 8 := Nat.and_le_right; have h2 : t &&& M 51 8 ≤ M 51 8 := Nat.and_le_right; omega
  rw [M85] at k1
  rw [M51] at k2
  have e3 : F3 8 (F2 8 (F1 8 s)) = cnt 8 (s % 256) + 256 * (cnt 8 (s / 256 % 256) + 256 * (cnt 8 (s / 65536 % 256) + 256 * (cnt 8 (s / 16777216 % 256) + 256 * (cnt 8 (s / 4294967296 % 256) + 256 * (cnt 8 (s / 1099511627776 % 256) + 256 * (cnt 8 (s / 281474976710656 % 256) + 256 * (cnt 8 (s / 72057594037927936 % 256)))))))) := by
    have z : ∀ t, F3 0 (F2 0 (F1 0 t)) = 0 := by intro t; simp [F3, F2, F1, M]
    rw [step', step', step', step', step', step', step', step', z]
    simp only [Nat.div_div_eq_div_mul, Nat.reduceMul, Nat.mul_zero, Nat.add_zero]
  have e4 : (mem s).length = cnt 8 (s % 256) + (cnt 8 (s / 256 % 256) + (cnt 8 (s / 65536 % 256) + (cnt 8 (s / 16777216 % 256) + (cnt 8 (s / 4294967296 % 256) + (cnt 8 (s / 1099511627776 % 256) + (cnt 8 (s / 281474976710656 % 256) + (cnt 8 (s / 72057594037927936 % 256)))))))) := by
    rw [mem_cnt, show (64 : Nat) = 8 + (8 + (8 + (8 + (8 + (8 + (8 + (8 + 0))))))) from rfl, cnt_byte, cnt_byte, cnt_byte, cnt_byte, cnt_byte, cnt_byte, cnt_byte, cnt_byte]
    simp only [Nat.div_div_eq_div_mul, Nat.reduceMul]
    have z : ∀ t, cnt 0 t = 0 := fun _ => rfl
    rw [z, Nat.add_zero]
  obtain ⟨a4, a5, a6, x4, x5, x6, h3, h4, h5, h6, h7⟩ := tail _ _ _ _ _ _ _ _ _ (cnt8_le s) (cnt8_le (s / 256)) (cnt8_le (s / 65536)) (cnt8_le (s / 16777216)) (cnt8_le (s / 4294967296)) (cnt8_le (s / 1099511627776)) (cnt8_le (s / 281474976710656)) (cnt8_le (s / 72057594037927936)) e3
  rw [← e4] at h7
  clear e3 e4
  exact ⟨F1 8 s, F2 8 (F1 8 s), F3 8 (F2 8 (F1 8 s)), a4, a5, a6, by unfold F1; rw [M85], by rw [F2, M51], by rw [F3, M15], x4, x5, x6, by omega, by omega, h3, h4, h5, h6, h7⟩
end Go.Proofs.Ws
/- The subsets of a set by their numbers; the next set of the same size: the arithmetic (no program in sight). -/
namespace Go.Proofs.Ws

/-- the set of those worlds of a list whose places are the bits of i -/
def subL : List Nat → Nat → Nat
  | [], _ => 0
  | w :: l, i => (if i % 2 = 1 then 2 ^ w else 0) ||| subL l (i / 2)

theorem div_pow_succ (i k : Nat) : i / 2 ^ (k + 1) = i / 2 / 2 ^ k := by rw [Nat.pow_succ, Nat.mul_comm, Nat.div_div_eq_div_mul]

/-- the lowest bit of a set, as the program finds it -/
theorem neg_low (s : Nat) (h0 : s ≠ 0) (h : s < 18446744073709551616) : s &&& (18446744073709551616 - s) = 2 ^ low s := (Lib.lowest_bit 64 s h0 h).1

/-- A set as a block of worlds, and what lies above it. -/
theorem block_form (s : Nat) (h0 : s ≠ 0) (h : s < 2 ^ 64) : ∃ b hi, 1 ≤ b ∧ s = hi * 2 ^ (low s + b + 1) + (2 ^ b - 1) * 2 ^ low s := by
  obtain ⟨m, hm, hk⟩ := low_form s h0 h
  generalize low s = a at *
  have h1 : m + 1 ≠ 0 := by omega
  obtain ⟨j, hj⟩ : ∃ j, m + 1 < 2 ^ j := ⟨m + 1, Nat.lt_two_pow_self⟩
  obtain ⟨hi, e, _⟩ := Lib.ctzFrom_spec j (m + 1) (by omega) hj
  generalize Lib.ctzFrom j (m + 1) = t at e
  refine ⟨t + 1, hi, by omega, ?_⟩
  have hp : 0 < 2 ^ t := Nat.two_pow_pos t
  have e2 : 2 * m + 1 = hi * 2 ^ (t + 2) + (2 ^ (t + 1) - 1) := by
    have x1 : 2 ^ (t + 1) = 2 * 2 ^ t := by rw [Nat.pow_succ, Nat.mul_comm]
    have x2 : hi * 2 ^ (t + 2) = 4 * (hi * 2 ^ t) := by rw [Nat.pow_add, ← Nat.mul_assoc, Nat.mul_comm]
    have x3 : 2 ^ t * (2 * hi + 1) = 2 * (hi * 2 ^ t) + 2 ^ t := by rw [Nat.mul_add, Nat.mul_one, Nat.mul_left_comm, Nat.mul_comm (2 ^ t) hi]
    rw [x1, x2]
    omega
  rw [hm, e2, Nat.mul_comm, Nat.add_mul, Nat.mul_assoc, ← Nat.pow_add]
  congr 3
  omega
end Go.Proofs.Ws
/- The next set of the same size, by arithmetic, and by the lowest world that can move up (no program in sight). -/
namespace Go.Proofs.Ws

/-- the next set by arithmetic -/
def gos (s : Nat) : Nat := (s + 2 ^ low s) ||| ((s ^^^ (s + 2 ^ low s)) / 2 ^ (low s + 2))
/-- the next set of as many worlds below n, and whether there is one -/
def nextV (n : Int) (s : Nat) : Nat × Bool :=
  if 0 ≤ n ∧ n ≤ 64 ∧ s ≠ 0 ∧ s < 2 ^ n.toNat ∧ s + 2 ^ low s < 2 ^ n.toNat then (gos s, true) else (0, false)

theorem gos_lt (n s : Nat) (h1 : s < 2 ^ n) (h2 : s + 2 ^ low s < 2 ^ n) : gos s < 2 ^ n :=
  Nat.or_lt_two_pow h2 (Nat.lt_of_le_of_lt (Nat.div_le_self _ _) (Nat.xor_lt_two_pow h1 h2))
theorem gos_ge (s : Nat) : s + 2 ^ low s ≤ gos s := Nat.left_le_or

theorem add_low_le (s : Nat) (h0 : s ≠ 0) (h : s < 2 ^ 64) : s + 2 ^ low s ≤ 2 ^ 64 := by
  obtain ⟨m, hm, hk⟩ := low_form s h0 h
  generalize low s = k at *
  obtain ⟨d, hd⟩ : ∃ d, 64 = k + d := ⟨64 - k, by omega⟩
  rw [hd, Nat.pow_add] at h ⊢
  subst hm
  have h2 := Nat.lt_of_mul_lt_mul_left h
  have h3 : 2 ^ k * (2 * m + 1 + 1) ≤ 2 ^ k * 2 ^ d := Nat.mul_le_mul_left _ h2
  rw [Nat.mul_add (2 ^ k) (2 * m + 1) 1, Nat.mul_one] at h3
  exact h3

theorem block_lt (a b : Nat) : (2 ^ b - 1) * 2 ^ a < 2 ^ (a + b) := by
  rw [Nat.pow_add, Nat.mul_comm]
  exact Nat.mul_lt_mul_of_pos_left (by have := Nat.two_pow_pos b; omega) (Nat.two_pow_pos a)

theorem block_bit (a b i : Nat) : ((2 ^ b - 1) * 2 ^ a).testBit i = (decide (a ≤ i) && decide (i < a + b)) := by
  rw [Nat.testBit_mul_two_pow, Nat.testBit_two_pow_sub_one]
  by_cases h : a ≤ i
  · simp only [h, decide_true, Bool.true_and]
    exact decide_eq_decide.2 (by omega)
  · simp [h]

theorem set_bit (a b hi i : Nat) : (hi * 2 ^ (a + b + 1) + (2 ^ b - 1) * 2 ^ a).testBit i = ((decide (a ≤ i) && decide (i < a + b)) || (decide (a + b < i) && hi.testBit (i - (a + b + 1)))) := by
  have hlt : (2 ^ b - 1) * 2 ^ a < 2 ^ (a + b + 1) := Nat.lt_trans (block_lt a b) (Nat.pow_lt_pow_right (by decide) (by omega))
  rw [Nat.mul_comm hi, Nat.testBit_two_pow_mul_add _ hlt]
  by_cases h : i < a + b + 1
  · rw [if_pos h, block_bit]
    have : ¬ (a + b < i) := by omega
    simp [this]
  · rw [if_neg h]
    have h1 : ¬ (i < a + b) := by omega
    have h2 : a + b < i := by omega
    simp [h1, h2]

theorem moved_eq (a b hi : Nat) : hi * 2 ^ (a + b + 1) + (2 ^ b - 1) * 2 ^ a + 2 ^ a = hi * 2 ^ (a + b + 1) + 2 ^ (a + b) := by
  have hp := Nat.two_pow_pos b
  have : (2 ^ b - 1) * 2 ^ a + 2 ^ a = 2 ^ (a + b) := by
    rw [Nat.pow_add, Nat.mul_comm (2 ^ a)]
    obtain ⟨q, hq⟩ : ∃ q, 2 ^ b = q + 1 := ⟨2 ^ b - 1, by omega⟩
    rw [hq, Nat.add_sub_cancel, Nat.add_mul, Nat.one_mul]
  omega

theorem moved_bit (a b hi i : Nat) : (hi * 2 ^ (a + b + 1) + 2 ^ (a + b)).testBit i = (decide (i = a + b) || (decide (a + b < i) && hi.testBit (i - (a + b + 1)))) := by
  have hlt : 2 ^ (a + b) < 2 ^ (a + b + 1) := Nat.pow_lt_pow_right (by decide) (by omega)
  rw [Nat.mul_comm hi, Nat.testBit_two_pow_mul_add _ hlt]
  by_cases h : i < a + b + 1
  · rw [if_pos h, Nat.testBit_two_pow]
    have h2 : ¬ (a + b < i) := by omega
    simp only [h2, decide_false, Bool.false_and, Bool.or_false]
    exact decide_eq_decide.2 (by omega)
  · rw [if_neg h]
    have h1 : ¬ (i = a + b) := by omega
    have h2 : a + b < i := by omega
    simp [h1, h2]

/-- the arithmetic and the slow way come to one set -/
theorem gos_form (s b hi : Nat) (hb : 1 ≤ b) (hs : s = hi * 2 ^ (low s + b + 1) + (2 ^ b - 1) * 2 ^ low s) (hlt : low s + b < 64) (h64 : s < 18446744073709551616) :
    gos s = ((s &&& (18446744073709551615 - (2 ^ (low s + b + 1) - 1))) ||| 2 ^ (low s + b)) ||| (2 ^ (b - 1) - 1) := by
  have e : gos s = (s + 2 ^ low s) ||| ((s ^^^ (s + 2 ^ low s)) / 2 ^ (low s + 2)) := rfl
  rw [e]
  generalize low s = a at *
  have hm : s + 2 ^ a = hi * 2 ^ (a + b + 1) + 2 ^ (a + b) := by rw [hs]; exact moved_eq a b hi
  have hmask : ∀ i, (18446744073709551615 - (2 ^ (a + b + 1) - 1)).testBit i = (decide (i < 64) && !decide (i < a + b + 1)) := by
    intro i
    have x : 2 ^ (a + b + 1) ≤ 2 ^ 64 := Nat.pow_le_pow_right (by decide) (by omega)
    have y := Nat.two_pow_pos (a + b + 1)
    have z := Nat.testBit_two_pow_sub_succ (x := 2 ^ (a + b + 1) - 1) (n := 64) (by omega) i
    rw [show 2 ^ 64 - (2 ^ (a + b + 1) - 1 + 1) = 18446744073709551615 - (2 ^ (a + b + 1) - 1) from by omega, Nat.testBit_two_pow_sub_one] at z
    exact z
  have hs64 : ∀ i, 64 ≤ i → s.testBit i = false := fun i hi => Nat.testBit_lt_two_pow (Nat.lt_of_lt_of_le h64 (Nat.pow_le_pow_right (by decide) hi : 2 ^ 64 ≤ 2 ^ i))
  apply Nat.eq_of_testBit_eq
  intro i
  have hb64 : ∀ i, 64 ≤ i → a + b < i → hi.testBit (i - (a + b + 1)) = false := by
    intro i h1 h2
    have := hs64 i h1
    rw [hs, set_bit] at this
    have h3 : ¬ (i < a + b) := by omega
    simpa [h2, h3] using this
  rw [hm, Nat.testBit_or, Nat.testBit_or, Nat.testBit_or, Nat.testBit_and, hmask, Nat.testBit_div_two_pow, Nat.testBit_xor, moved_bit, moved_bit, hs, set_bit, set_bit, Nat.testBit_two_pow, Nat.testBit_two_pow_sub_one]
  by_cases h1 : i < a + b + 1
  · have h2 : ¬ (a + b < i) := by omega
    by_cases h3 : i = a + b
    · subst h3
      simp
    · have h3' : ¬ (a + b = i) := by omega
      have h4 : ¬ (i + (a + 2) < a) := by omega
      simp only [h1, h2, h3, h3', decide_true, decide_false, Bool.not_true, Bool.and_false, Bool.false_and, Bool.or_false, Bool.false_or]
      by_cases h5 : i < b - 1
      · have h6 : a ≤ i + (a + 2) := by omega
        simp only [h5, decide_true]
        by_cases h7 : i + (a + 2) < a + b
        · have h8 : ¬ (i + (a + 2) = a + b) := by omega
          have h9 : ¬ (a + b < i + (a + 2)) := by omega
          simp [h6, h7, h8, h9]
        · have h8 : i + (a + 2) = a + b := by omega
          have h9 : ¬ (a + b < i + (a + 2)) := by omega
          simp [h8]
      · simp only [h5, decide_false]
        have h7 : ¬ (i + (a + 2) < a + b) := by omega
        have h8 : ¬ (i + (a + 2) = a + b) := by omega
        have h9 : a + b < i + (a + 2) := by omega
        simp [h7, h8, h9]
  · have h2 : a + b < i := by omega
    have h3 : ¬ (i = a + b) := by omega
    have h3' : ¬ (a + b = i) := by omega
    have h4 : ¬ (i < a + b) := by omega
    have h5 : ¬ (i < b - 1) := by omega
    have h7 : ¬ (i + (a + 2) < a + b) := by omega
    have h8 : ¬ (i + (a + 2) = a + b) := by omega
    have h9 : a + b < i + (a + 2) := by omega
    simp only [h1, h2, h3, h3', h4, h5, h7, h8, h9, decide_true, decide_false, Bool.and_false, Bool.false_or, Bool.true_and, Bool.not_false, Bool.or_false, Bool.and_true, Bool.xor_self]
    by_cases h64' : i < 64
    · simp [h64']
    · simp [hb64 i (by omega) h2]

/-- what the loop by the slow way knows of the set -/
theorem walk_bits (s b hi : Nat) (hb : 1 ≤ b) (hs : s = hi * 2 ^ (low s + b + 1) + (2 ^ b - 1) * 2 ^ low s) :
    (∀ i, i < low s → s.testBit i = false) ∧ (∀ i, low s ≤ i → i < low s + b → s.testBit i = true) ∧ s.testBit (low s + b) = false := by
  generalize low s = a at *
  refine ⟨fun i h => ?_, fun i h1 h2 => ?_, ?_⟩
  · rw [hs, set_bit]
    have h1 : ¬ (a ≤ i) := by omega
    have h2 : ¬ (a + b < i) := by omega
    simp [h1, h2]
  · rw [hs, set_bit]
    simp [h1, h2]
  · rw [hs, set_bit]
    simp

theorem moved_lt (s b hi n : Nat) (hs : s = hi * 2 ^ (low s + b + 1) + (2 ^ b - 1) * 2 ^ low s) (hn : s < 2 ^ n) (h : low s + b < n) : s + 2 ^ low s < 2 ^ n := by
  generalize low s = a at *
  have hm : s + 2 ^ a = hi * 2 ^ (a + b + 1) + 2 ^ (a + b) := by rw [hs]; exact moved_eq a b hi
  rw [hm]
  obtain ⟨d, rfl⟩ : ∃ d, n = a + b + 1 + d := ⟨n - (a + b + 1), by omega⟩
  have h1 : hi * 2 ^ (a + b + 1) < 2 ^ (a + b + 1) * 2 ^ d := by rw [← Nat.pow_add]; omega
  rw [Nat.mul_comm] at h1
  have h2 := Nat.lt_of_mul_lt_mul_left h1
  have h3 : 2 ^ (a + b + 1) * (hi + 1) ≤ 2 ^ (a + b + 1) * 2 ^ d := Nat.mul_le_mul_left _ h2
  rw [Nat.mul_add, Nat.mul_one] at h3
  have h4 : 2 ^ (a + b) < 2 ^ (a + b + 1) := Nat.pow_lt_pow_right (by decide) (by omega)
  rw [Nat.pow_add 2 (a + b + 1) d, Nat.mul_comm hi]
  omega

theorem moved_ge (s b hi n : Nat) (hs : s = hi * 2 ^ (low s + b + 1) + (2 ^ b - 1) * 2 ^ low s) (h : n ≤ low s + b) : ¬ (s + 2 ^ low s < 2 ^ n) := by
  generalize low s = a at *
  have hm : s + 2 ^ a = hi * 2 ^ (a + b + 1) + 2 ^ (a + b) := by rw [hs]; exact moved_eq a b hi
  rw [hm]
  have : 2 ^ n ≤ 2 ^ (a + b) := Nat.pow_le_pow_right (by decide) h
  omega

/-- outside of the first n worlds lies nothing exactly if the number is below 2^n -/
theorem outside (s n : Nat) (hn : n ≤ 64) (hs : s < 18446744073709551616) : s &&& (18446744073709551615 - (2 ^ n - 1)) = 0 ↔ s < 2 ^ n := by
  have hmask : ∀ i, (18446744073709551615 - (2 ^ n - 1)).testBit i = (decide (i < 64) && !decide (i < n)) := by
    intro i
    have x : 2 ^ n ≤ 2 ^ 64 := Nat.pow_le_pow_right (by decide) hn
    have y := Nat.two_pow_pos n
    have z := Nat.testBit_two_pow_sub_succ (x := 2 ^ n - 1) (n := 64) (by omega) i
    rw [show 2 ^ 64 - (2 ^ n - 1 + 1) = 18446744073709551615 - (2 ^ n - 1) from by omega, Nat.testBit_two_pow_sub_one] at z
    exact z
  constructor
  · intro h
    apply Nat.lt_of_not_le
    intro hle
    obtain ⟨i, hi, hbit⟩ := Nat.exists_ge_and_testBit_of_ge_two_pow hle
    have h64 : i < 64 := by
      apply Nat.lt_of_not_le
      intro h6
      have := Nat.testBit_lt_two_pow (x := s) (i := i) (Nat.lt_of_lt_of_le hs (Nat.pow_le_pow_right (by decide) h6 : 2 ^ 64 ≤ 2 ^ i))
      rw [this] at hbit
      cases hbit
    have hz : (s &&& (18446744073709551615 - (2 ^ n - 1))).testBit i = false := by rw [h]; simp
    rw [Nat.testBit_and, hmask, hbit] at hz
    have : ¬ (i < n) := by omega
    simp [h64, this] at hz
  · intro h
    apply Nat.eq_of_testBit_eq
    intro i
    rw [Nat.testBit_and, hmask, Nat.zero_testBit]
    by_cases hi : i < n
    · simp [hi]
    · rw [Nat.testBit_lt_two_pow (Nat.lt_of_lt_of_le h (Nat.pow_le_pow_right (by decide) (by omega)))]
      simp
end Go.Proofs.Ws
/- The subsets ascend, lie in the set, and end with it (no program in sight). -/
namespace Go.Proofs.Ws

/-- a list of worlds that ascends from b on -/
def Asc : Nat → List Nat → Prop
  | _, [] => True
  | b, w :: l => b ≤ w ∧ Asc (w + 1) l

theorem Asc.mono {b c : Nat} : ∀ {l : List Nat}, Asc c l → b ≤ c → Asc b l
  | [], _, _ => trivial
  | _ :: _, h, hb => ⟨Nat.le_trans hb h.1, h.2⟩

theorem asc_filter (p : Nat → Bool) : ∀ (n b : Nat), Asc b ((List.range' b n).filter p)
  | 0, _ => trivial
  | n + 1, b => by
    rw [List.range'_succ, List.filter_cons]
    split
    · exact ⟨Nat.le_refl _, asc_filter p n (b + 1)⟩
    · exact (asc_filter p n (b + 1)).mono (by omega)

theorem asc_mem (s : Nat) : Asc 0 (mem s) := by
  unfold mem
  rw [List.range_eq_range']
  exact asc_filter _ 64 0

theorem subL_dvd : ∀ (l : List Nat) (b i : Nat), Asc b l → 2 ^ b ∣ subL l i
  | [], _, _, _ => Nat.dvd_zero _
  | w :: l, b, i, h => by
    have h1 := subL_dvd l (w + 1) (i / 2) h.2
    have h2 : 2 ^ b ∣ 2 ^ w := Nat.pow_dvd_pow 2 h.1
    have h3 : 2 ^ b ∣ 2 ^ (w + 1) := Nat.pow_dvd_pow 2 (by have := h.1; omega)
    have h4 := Nat.dvd_trans h3 h1
    have h5 : (if i % 2 = 1 then 2 ^ w else 0) < 2 ^ (w + 1) := by
      split
      · exact Nat.pow_lt_pow_right (by decide) (by omega)
      · exact Nat.two_pow_pos _
    have h6 : 2 ^ b ∣ (if i % 2 = 1 then 2 ^ w else 0) := by
      split
      · exact h2
      · exact Nat.dvd_zero _
    rw [subL]
    rw [Nat.or_comm, Lib_join (w + 1) _ _ h1 h5]
    exact Nat.dvd_add h4 h6
where
  Lib_join (i x y : Nat) (hx : 2 ^ i ∣ x) (hy : y < 2 ^ i) : x ||| y = x + y := by
    obtain ⟨a, rfl⟩ := hx
    exact (Nat.two_pow_add_eq_or_of_lt hy a).symm

theorem or_add (i x y : Nat) (hx : 2 ^ i ∣ x) (hy : y < 2 ^ i) : y ||| x = y + x := by
  obtain ⟨a, rfl⟩ := hx
  rw [Nat.or_comm, Nat.add_comm]
  exact (Nat.two_pow_add_eq_or_of_lt hy a).symm

theorem subL_cons (w : Nat) (l : List Nat) (i : Nat) (h : Asc (w + 1) l) : subL (w :: l) i = (if i % 2 = 1 then 2 ^ w else 0) + subL l (i / 2) := by
  rw [subL]
  apply or_add (w + 1) _ _ (subL_dvd l (w + 1) _ h)
  split
  · exact Nat.pow_lt_pow_right (by decide) (by omega)
  · exact Nat.two_pow_pos _

theorem subL_lt : ∀ (l : List Nat) (b i j : Nat), Asc b l → i < j → j < 2 ^ l.length → subL l i < subL l j
  | [], _, i, j, _, h1, h2 => by simp at h2; omega
  | w :: l, b, i, j, h, h1, h2 => by
    rw [subL_cons w l i h.2, subL_cons w l j h.2]
    have hp := Nat.two_pow_pos w
    rw [List.length_cons, Nat.pow_succ] at h2
    by_cases he : i / 2 = j / 2
    · rw [he, if_neg (by omega), if_pos (by omega)]
      omega
    · have ih := subL_lt l (w + 1) (i / 2) (j / 2) h.2 (by omega) (by omega)
      obtain ⟨x, hx⟩ := subL_dvd l (w + 1) (i / 2) h.2
      obtain ⟨y, hy⟩ := subL_dvd l (w + 1) (j / 2) h.2
      rw [hx, hy] at ih ⊢
      have hxy := Nat.lt_of_mul_lt_mul_left ih
      have h3 : 2 ^ (w + 1) * (x + 1) ≤ 2 ^ (w + 1) * y := Nat.mul_le_mul_left _ hxy
      rw [Nat.mul_add, Nat.mul_one, Nat.pow_succ] at h3
      rw [Nat.pow_succ]
      split <;> split <;> omega

theorem subL_bit : ∀ (l : List Nat) (i x : Nat), (subL l i).testBit x = true → x ∈ l
  | [], _, x, h => by simp [subL] at h
  | w :: l, i, x, h => by
    rw [subL, Nat.testBit_or, Bool.or_eq_true] at h
    rcases h with h | h
    · split at h
      · rw [Nat.testBit_two_pow] at h
        have : w = x := by simpa using h
        subst this
        exact List.mem_cons_self
      · simp at h
    · exact List.mem_cons_of_mem _ (subL_bit l (i / 2) x h)

theorem subL_full : ∀ (l : List Nat) (x : Nat), (subL l (2 ^ l.length - 1)).testBit x = decide (x ∈ l)
  | [], x => by simp [subL]
  | w :: l, x => by
    have h2 := Nat.two_pow_pos l.length
    have e1 : (2 ^ (w :: l).length - 1) % 2 = 1 := by rw [List.length_cons, Nat.pow_succ]; omega
    have e2 : (2 ^ (w :: l).length - 1) / 2 = 2 ^ l.length - 1 := by rw [List.length_cons, Nat.pow_succ]; omega
    rw [subL, if_pos e1, e2, Nat.testBit_or, subL_full l x, Nat.testBit_two_pow]
    by_cases h : w = x
    · subst h; simp
    · have h' : ¬ (x = w) := fun e => h e.symm
      simp [h, h']

theorem mem_iff (s : Nat) (x : Nat) : x ∈ mem s ↔ x < 64 ∧ s.testBit x = true := by
  unfold mem
  rw [List.mem_filter, List.mem_range]

theorem bit_ge (s x : Nat) (hs : s < 18446744073709551616) (hx : 64 ≤ x) : s.testBit x = false :=
  Nat.testBit_lt_two_pow (Nat.lt_of_lt_of_le hs (Nat.pow_le_pow_right (by decide) hx : 2 ^ 64 ≤ 2 ^ x))

theorem subL_all (s : Nat) (hs : s < 18446744073709551616) : subL (mem s) (2 ^ (mem s).length - 1) = s := by
  apply Nat.eq_of_testBit_eq
  intro x
  rw [subL_full]
  by_cases h : x < 64
  · cases hb : s.testBit x
    · simp [mem_iff, hb]
    · simp [mem_iff, hb, h]
  · rw [bit_ge s x hs (by omega)]
    simp [mem_iff]; omega

theorem subL_in (s i : Nat) (hs : s < 18446744073709551616) : subL (mem s) i &&& (18446744073709551615 - s) = 0 := by
  apply Nat.eq_of_testBit_eq
  intro x
  rw [Nat.testBit_and, Nat.zero_testBit]
  cases hb : (subL (mem s) i).testBit x
  · rfl
  · have h1 := (mem_iff s x).1 (subL_bit _ _ _ hb)
    have z := Nat.testBit_two_pow_sub_succ (x := s) (n := 64) (by omega) x
    rw [show 2 ^ 64 - (s + 1) = 18446744073709551615 - s from by omega, h1.2] at z
    rw [z]; simp

theorem subL_lt64 (s i : Nat) : subL (mem s) i < 18446744073709551616 := by
  apply Nat.lt_pow_two_of_testBit (n := 64)
  intro x hx
  cases hb : (subL (mem s) i).testBit x
  · rfl
  · have := ((mem_iff s x).1 (subL_bit _ _ _ hb)).1
    omega
end Go.Proofs.Ws
/- Words and memory: the set of one world and of all, what a slice reads as, the table of trailing zeros, TrailingZeros64. -/
namespace Go.Proofs.YtopkmcoblndokaaDoor
open Go.RowKit Go.Proofs.Ws
theorem ret_bool {a b : Bool} (h : a = b) : Ending.returned (.bool a) = .returned (.bool b) := by rw [h]
theorem ret_u64 {a b : Int} (h : a = b) : Ending.returned (.int .u64 a) = .returned (.int .u64 b) := by rw [h]
theorem ret_i64 {a b : Int} (h : a = b) : Ending.returned (.int .i64 a) = .returned (.int .i64 b) := by rw [h]
/-- the set of one world -/
def p2 (k : Nat) : Nat := 2 ^ k
theorem wrap_pow (n : Nat) (h : n < 64) : IntKind.u64.wrap ((2 : Int) ^ n) = ((p2 n : Nat) : Int) := by
  have h2 : 2 ^ n < 2 ^ 64 := Nat.pow_lt_pow_right (by decide) h
  rw [IntKind.wrap_u64, show ((2 : Int) ^ n) = ((p2 n : Nat) : Int) from by simp [p2]]
  have h3 : p2 n < 18446744073709551616 := h2
  omega
theorem wrap_pow64 : IntKind.u64.wrap ((2 : Int) ^ 64) = 0 := by decide
/-- world n is in the set s -/
def hasB (s : Nat) (n : Int) : Bool := decide (0 ≤ n ∧ n < 64) && s.testBit n.toNat
theorem and_pow (s k : Nat) (hs : s < 18446744073709551616) (hk : k < 64) : (bits .and .u64 (s : Int) (p2 k : Int) != 0) = s.testBit k := by
  have h2 : 2 ^ k < 2 ^ 64 := Nat.pow_lt_pow_right (by decide) hk
  have hp := Nat.two_pow_pos k
  have e : s.testBit k = decide (s / 2 ^ k % 2 = 1) := Nat.testBit_eq_decide_div_mod_eq
  rw [u64_and_nat s (p2 k) hs h2, show s &&& p2 k = s / 2 ^ k % 2 * 2 ^ k from nat_bit k s, e]
  have h3 : s / 2 ^ k % 2 = 0 ∨ s / 2 ^ k % 2 = 1 := by omega
  have e0 : ((2 ^ k : Nat) : Int) ≠ 0 := by omega
  rcases h3 with h3 | h3 <;> rw [h3]
  · simp
  · simp only [Nat.one_mul, decide_true, bne_iff_ne]; exact e0
/-- the worlds 0 to n - 1, for n from 0 to 64; else none -/
def allV (n : Int) : Nat := if 0 ≤ n ∧ n ≤ 64 then 2 ^ n.toNat - 1 else 0
theorem bits_and_nn (a b : Nat) (ha : a < 18446744073709551616) (hb : b < 18446744073709551616) : bits .and .u64 (a : Int) (b : Int) = ((a &&& b : Nat) : Int) := u64_and_nat a b ha hb
theorem wrap_allV (k : Nat) (h : k ≤ 64) : IntKind.u64.wrap (IntKind.u64.wrap ((2 : Int) ^ k) - 1) = (allV k : Int) := by
  have e0 : allV k = 2 ^ k - 1 := by unfold allV; rw [if_pos (by omega)]; rfl
  rw [e0]
  by_cases h1 : k = 64
  · subst h1; decide
  · have h2 := wrap_pow k (by omega)
    have h3 : p2 k < 18446744073709551616 := Nat.pow_lt_pow_right (by decide) (show k < 64 by omega)
    have h4 : 0 < p2 k := Nat.two_pow_pos k
    rw [h2, show 2 ^ k = p2 k from rfl, IntKind.wrap_u64]
    omega
theorem allV_lt (n : Int) : allV n < 18446744073709551616 := by
  unfold allV
  split
  · rename_i h
    have : 2 ^ n.toNat ≤ 2 ^ 64 := Nat.pow_le_pow_right (by decide) (by omega)
    omega
  · omega
theorem allV_succ (k : Nat) (h : k < 64) : bits .or .u64 (allV k : Int) (p2 k : Int) = (allV ((k : Int) + 1) : Int) := by
  have e0 : allV k = 2 ^ k - 1 := by unfold allV; rw [if_pos (by omega)]; rfl
  have e1 : allV ((k : Int) + 1) = 2 ^ (k + 1) - 1 := by unfold allV; rw [if_pos (by omega)]; rfl
  have h3 : p2 k < 18446744073709551616 := Nat.pow_lt_pow_right (by decide) h
  rw [u64_or_nat _ _ (allV_lt _) h3, e0, e1]
  congr 1
  have hp := Nat.two_pow_pos k
  rw [Nat.or_comm, nat_join k (p2 k) (2 ^ k - 1) (by unfold p2; exact Nat.mod_self _) (by omega), Nat.pow_succ]
  unfold p2
  omega
theorem block_of_add (a : Addr) (n : Nat) : (a.add n).block = a.block := by unfold Addr.add; split <;> rfl
theorem add_of_add (a : Addr) (i j : Nat) : (a.add i).add j = a.add (i + j) := by
  unfold Addr.add
  by_cases hi : i = 0 <;> by_cases hj : j = 0 <;> simp [hi, hj, Nat.add_assoc]
def Reads (w : World) (B size : Nat) (A : Option Addr) (n : Nat) (xs : List Value) : Prop :=
  xs.length = n * size ∧ (0 < n → ∃ ad, A = some ad ∧ ad.block < B ∧ ∀ j u, xs[j]? = some u → w.cell? (ad.add j) = some u)
section
variable {w w' : World} {B B' size n : Nat} {A : Option Addr} {xs : List Value}
theorem Reads.none_ : Reads w B size A 0 [] := ⟨by simp, fun h => absurd h (by omega)⟩
theorem Reads.at_ {k : Nat} (h : Reads w B 1 A n xs) (hk : k < n) : ∃ ad u, A = some ad ∧ ad.block < B ∧ xs[k]? = some u ∧ w.cell? (ad.add k) = some u := by
  obtain ⟨ad, e, hb, hc⟩ := h.2 (by omega)
  have hl : k < xs.length := by have := h.1; omega
  exact ⟨ad, xs[k], e, hb, List.getElem?_eq_getElem hl, hc k _ (List.getElem?_eq_getElem hl)⟩
theorem Reads.keep (h : Reads w B size A n xs) (hk : ∀ p : Addr, p.block < B → w'.cell? p = w.cell? p) : Reads w' B size A n xs :=
  ⟨h.1, fun hn => by
    obtain ⟨ad, e, hb, hc⟩ := h.2 hn
    exact ⟨ad, e, hb, fun j u hu => (hk _ (by rw [block_of_add]; exact hb)).trans (hc j u hu)⟩⟩
theorem Reads.more (h : Reads w B size A n xs) (hB : B ≤ B') : Reads w B' size A n xs :=
  ⟨h.1, fun hn => by
    obtain ⟨ad, e, hb, hc⟩ := h.2 hn
    exact ⟨ad, e, by omega, hc⟩⟩
theorem Reads.below (h : Reads w B size A n xs) (hb : Below B w w') : Reads w' B size A n xs := h.keep fun _ hp => hb.cell hp
theorem Reads.drew (h : Reads w B size A n xs) : Reads w.drew B size A n xs := h
theorem Reads.drewN (h : Reads w B size A n xs) (k : Nat) : Reads (w.drewN k) B size A n xs := h
theorem Reads.alloc (h : Reads w B size A n xs) (hB : B ≤ w.heap.size) (o : Obj) : Reads (w.alloc o) B size A n xs := h.keep fun p hp => World.cell?_alloc_lt w o p (by omega)
theorem Reads.setCell (h : Reads w B size A n xs) {p : Addr} (hB : B ≤ p.block) (u : Value) : Reads (w.setCell p u) B size A n xs :=
  h.keep fun q hq => World.cell?_setCell_other w p q u (fun e => by subst e; omega)
theorem Reads.grown (h : Reads w B size A n xs) {row : Option Nat} (hg : w.grownBy w' row) (hB : B ≤ w.heap.size) (hr : ∀ g, row = some g → B ≤ g) : Reads w' B size A n xs :=
  h.keep fun p hp => World.cell?_of_block (hg.block p.block (by omega) (fun e => by have := hr _ e.symm; omega))
theorem Reads.cut (h : Reads w B size A n xs) {k cap : Nat} (hk : k ≤ n) (hc : n ≤ cap) :
    Reads w B size (if cap = k then A else A.map (·.add (k * size))) (n - k) (xs.drop (k * size)) := by
  refine ⟨by rw [List.length_drop, h.1, Nat.sub_mul], fun hn => ?_⟩
  obtain ⟨ad, rfl, hb, hcell⟩ := h.2 (by omega)
  rw [if_neg (by omega)]
  refine ⟨ad.add (k * size), rfl, by rw [block_of_add]; exact hb, fun j u hu => ?_⟩
  rw [add_of_add]
  exact hcell _ u (by rw [← hu, List.getElem?_drop])
theorem Reads.of_own {base : Nat} {e : TypeId} {c : Nat} (h : w.ownsRow base e size (.slice A n c) n xs) : Reads w w.heap.size size A n xs := by
  refine ⟨h.1, fun hn => ?_⟩
  obtain ⟨g, cap, hv, _, hlt⟩ := h.form hn
  have hA : A = some ⟨g, 0, none⟩ := by injection hv
  subst hA
  exact ⟨_, rfl, hlt, h.cells (g := g) rfl⟩
end
/-- the table of trailing zeros lies in its variable (block 0) -/
def iv (l : List Nat) : List Value := l.map (fun k : Nat => Value.int .i64 (k : Int))
theorem iv_length (l : List Nat) : (iv l).length = l.length := by simp [iv]
theorem iv_append (l m : List Nat) : iv (l ++ m) = iv l ++ iv m := by simp [iv]
theorem iv_get (l : List Nat) (j : Nat) (u : Value) (h : (iv l)[j]? = some u) : ∃ k, l[j]? = some k ∧ u = .int .i64 (k : Int) := by
  unfold iv at h
  rw [List.getElem?_map] at h
  cases hl : l[j]? with
  | none => rw [hl] at h; cases h
  | some k => rw [hl] at h; exact ⟨k, rfl, by simpa using h.symm⟩
theorem own_reads {w : World} {base : Nat} {e : TypeId} {v : Value} {n : Nat} {xs : List Value} (h : w.ownsRow base e 1 v n xs) :
    ∃ A c, v = .slice A n c ∧ Reads w w.heap.size 1 A n xs := by
  have h2 := h.2
  rcases h2 with ⟨rfl, rfl⟩ | ⟨g, cap, cur, rfl, _⟩
  · exact ⟨none, 0, rfl, Reads.of_own h⟩
  · exact ⟨_, cap, rfl, Reads.of_own h⟩
theorem andpred (r : Nat) (h0 : r ≠ 0) (hr : r < 18446744073709551616) : bits .and .u64 (r : Int) (IntKind.u64.wrap ((r : Int) - 1)) = ((r &&& (r - 1) : Nat) : Int) := by
  rw [show IntKind.u64.wrap ((r : Int) - 1) = ((r - 1 : Nat) : Int) from by rw [IntKind.wrap_u64]; omega, u64_and_nat r (r - 1) hr (by omega)]
theorem or_pow (a k : Nat) (ha : a < 18446744073709551616) (hk : k < 64) : bits .or .u64 (a : Int) (p2 k : Int) = ((a ||| p2 k : Nat) : Int) ∧ a ||| p2 k < 18446744073709551616 := by
  have h3 : p2 k < 18446744073709551616 := Nat.pow_lt_pow_right (by decide) hk
  exact ⟨u64_or_nat a (p2 k) ha h3, Nat.or_lt_two_pow (n := 64) ha h3⟩
theorem outside_in (s : Nat) (n : Int) (hs : s < 18446744073709551616) (h : 0 ≤ n ∧ n ≤ 64) : (bits .andNot .u64 (s : Int) (allV n : Int) != 0) = !decide (s < 2 ^ n.toNat) := by
  rw [u64_andNot_nat s (allV n) hs (allV_lt n)]
  have e : allV n = 2 ^ n.toNat - 1 := by unfold allV; rw [if_pos h]
  rw [e]
  have := outside s n.toNat (by omega) hs
  by_cases h2 : s < 2 ^ n.toNat
  · rw [this.2 h2, decide_eq_true h2]; rfl
  · have h3 := fun x => h2 (this.1 x)
    rw [decide_eq_false h2, bne_iff_ne.2 (by omega)]; rfl
theorem outside_out (s : Nat) (n : Int) (hs : s < 18446744073709551616) (h : ¬ (0 ≤ n ∧ n ≤ 64)) : (bits .andNot .u64 (s : Int) (allV n : Int) != 0) = !decide (s = 0) := by
  rw [u64_andNot_nat s (allV n) hs (allV_lt n)]
  have e : allV n = 0 := by unfold allV; rw [if_neg h]
  have e2 : s &&& (18446744073709551615 - 0) = s := by
    have := Nat.and_two_pow_sub_one_eq_mod s 64
    rw [show 2 ^ 64 - 1 = 18446744073709551615 - 0 from by omega] at this
    rw [this]; omega
  rw [e, e2]
  by_cases h2 : s = 0
  · rw [decide_eq_true h2, h2]; rfl
  · rw [decide_eq_false h2, bne_iff_ne.2 (by omega)]; rfl
theorem outside_yes (s : Nat) (n : Int) (hs : s < 18446744073709551616) (h0 : s ≠ 0) (h : ¬ (0 ≤ n ∧ n ≤ 64 ∧ s < 2 ^ n.toNat)) : (bits .andNot .u64 (s : Int) (allV n : Int) != 0) = true := by
  by_cases h1 : 0 ≤ n ∧ n ≤ 64
  · rw [outside_in s n hs h1, decide_eq_false (by omega)]; rfl
  · rw [outside_out s n hs h1, decide_eq_false h0]; rfl
theorem p2_bit (w x : Nat) : (p2 w).testBit x = decide (w = x) := by unfold p2; exact Nat.testBit_two_pow
theorem below_drewN {B : Nat} {a w : World} (h : Below B a w) (n : Nat) : Below B a (w.drewN n) := h.trans ⟨rfl, rfl, rfl, Nat.le_refl _, fun _ _ => rfl⟩
end Go.Proofs.YtopkmcoblndokaaDoor
/- Layer 5 as plain mathematics: nodes, their form, the error of a list of nodes, the canonical list (no program in sight). -/
namespace Go.Proofs.Ws
open Go
/-- a node: operator, number, event, group, operands -/
structure Nd where
  op : Int
  i : Int
  e : Int
  g : Int
  x : Int
  y : Int
deriving DecidableEq
def usesX (op : Int) : Bool := decide (4 ≤ op) && decide (op ≤ 21)
def usesY (op : Int) : Bool := (decide (5 ≤ op) && decide (op ≤ 8)) || decide (op = 13) || decide (op = 14) || decide (op = 16) || decide (op = 19) || decide (op = 21)
def hasAgent (op : Int) : Bool := decide (op = 9) || decide (op = 10) || decide (op = 14) || decide (op = 15)
def hasGroup (op : Int) : Bool := decide (11 ≤ op) && decide (op ≤ 13)
def known (op : Int) : Bool := decide (1 ≤ op) && decide (op ≤ 21)
/-- the limits of the fields: 0 for a field that is not used -/
def shN (op : Int) : Int := if op = 3 then 8 else if hasAgent op = true then 4 else if op = 17 then 8 else 0
def shE (op : Int) : Int := if op = 17 then 8 else 0
def shG (op : Int) : Int := if hasGroup op = true then 15 else 0
def shO (op : Int) : Int := if usesY op = true then 2 else if usesX op = true then 1 else 0
/-- the operands that are used are earlier nodes, the fields that are not used are 0 -/
def formOk (n : Nd) (at_ : Int) : Bool :=
  (if usesX n.op = true then decide (0 ≤ n.x) && decide (n.x < at_) else decide (n.x = 0)) &&
  (if usesY n.op = true then decide (0 ≤ n.y) && decide (n.y < at_) else decide (n.y = 0)) &&
  (decide (n.op = 3) || hasAgent n.op || decide (n.op = 17) || decide (n.i = 0)) && (decide (n.op = 17) || decide (n.e = 0)) && (hasGroup n.op || decide (n.g = 0))
def rangeOk (n : Nd) : Bool :=
  (shN n.op == 0 || (decide (0 ≤ n.i) && decide (n.i < shN n.op))) && (shE n.op == 0 || (decide (0 ≤ n.e) && decide (n.e < shE n.op))) && (shG n.op == 0 || (decide (1 ≤ n.g) && decide (n.g ≤ shG n.op)))
/-- the error of a node at a place -/
def nodeErr (n : Nd) (at_ : Int) : Int := if known n.op = false then 10 else if formOk n at_ = false then 3 else if rangeOk n = false then 2 else 0
/-- the first error from a place on -/
def errFrom : Nat → List Nd → Int
  | _, [] => 0
  | k, n :: ns => if nodeErr n (k : Int) ≠ 0 then nodeErr n (k : Int) else errFrom (k + 1) ns
def fErr (l : List Nd) : Int := if l.length = 0 then 3 else if 200 < l.length then 8 else errFrom 0 l
/-- the walk's state: the canonical list so far, and for each node its number in it -/
structure Wk where
  out : List Nd
  done : List (Option Nat)
def putNd (out : List Nd) (n : Nd) : Nat × List Nd := if n ∈ out then (out.idxOf n, out) else (out.length, out ++ [n])
def nd0 : Nd := ⟨0, 0, 0, 0, 0, 0⟩
def finW (f : List Nd) : Nat → Nat → Wk → Nat × Wk
  | 0, _, s => (0, s)
  | fuel + 1, i, s =>
    match s.done.getD i none with
    | some k => (k, s)
    | none =>
      let n := f.getD i nd0
      let r1 := if usesX n.op = true then finW f fuel n.x.toNat s else (n.x.toNat, s)
      let r2 := if usesY n.op = true then finW f fuel n.y.toNat r1.2 else (n.y.toNat, r1.2)
      let p := putNd r2.2.out { n with x := (r1.1 : Int), y := (r2.1 : Int) }
      (p.1, ⟨p.2, r2.2.done.set i (some p.1)⟩)
def canonF (f : List Nd) : List Nd := (finW f f.length (f.length - 1) ⟨[], List.replicate f.length none⟩).2.out
def compF (f : List Nd) : List Nd := if fErr f = 0 then canonF f else []
end Go.Proofs.Ws
/- Layer 5 as plain mathematics: the canonical list as a function of the tree. -/
namespace Go.Proofs.Ws
open Go
inductive Tr where
  | leaf (n : Nd)
  | un (n : Nd) (a : Tr)
  | bin (n : Nd) (a b : Tr)
deriving DecidableEq
def bare (n : Nd) : Nd := { n with x := 0, y := 0 }
def treeF (f : List Nd) : Nat → Nat → Tr
  | 0, _ => .leaf nd0
  | fuel + 1, i =>
    let n := f.getD i nd0
    if usesY n.op = true then .bin (bare n) (treeF f fuel n.x.toNat) (treeF f fuel n.y.toNat)
    else if usesX n.op = true then .un (bare n) (treeF f fuel n.x.toNat) else .leaf (bare n)
/-- the tree of the node at a place -/
def treeAt (f : List Nd) (i : Nat) : Tr := treeF f (i + 1) i
def finT : Tr → List Nd → Nat × List Nd
  | .leaf n, o => putNd o n
  | .un n a, o => putNd (finT a o).2 { n with x := ((finT a o).1 : Int) }
  | .bin n a b, o => putNd (finT b (finT a o).2).2 { n with x := ((finT a o).1 : Int), y := ((finT b (finT a o).2).1 : Int) }
/-- the tree lies in the list at a number -/
def rep (o : List Nd) : Nat → Tr → Prop
  | k, .leaf n => o[k]? = some n
  | k, .un n a => ∃ x : Nat, o[k]? = some { n with x := (x : Int) } ∧ rep o x a
  | k, .bin n a b => ∃ x y : Nat, o[k]? = some { n with x := (x : Int), y := (y : Int) } ∧ rep o x a ∧ rep o y b
theorem putNd_old {o : List Nd} (h : o.Nodup) {k : Nat} {n : Nd} (hk : o[k]? = some n) : putNd o n = (k, o) := by
  obtain ⟨hl, he⟩ := List.getElem?_eq_some_iff.1 hk
  have hm : n ∈ o := by rw [← he]; exact List.getElem_mem hl
  unfold putNd
  rw [if_pos hm, ← he, List.Nodup.idxOf_getElem h]
theorem finT_old {o : List Nd} (h : o.Nodup) : ∀ (t : Tr) (k : Nat), rep o k t → finT t o = (k, o)
  | .leaf n, k, hr => putNd_old h hr
  | .un n a, k, ⟨x, hk, ha⟩ => by
    unfold finT
    rw [finT_old h a x ha]
    exact putNd_old h hk
  | .bin n a b, k, ⟨x, y, hk, ha, hb⟩ => by
    unfold finT
    rw [finT_old h a x ha, finT_old h b y hb]
    exact putNd_old h hk
theorem rep_mono {o o' : List Nd} (hp : o <+: o') : ∀ (t : Tr) (k : Nat), rep o k t → rep o' k t
  | .leaf n, k, h => by
    obtain ⟨r, rfl⟩ := hp
    have hl : k < o.length := (List.getElem?_eq_some_iff.1 h).1
    show (o ++ r)[k]? = some n
    rw [List.getElem?_append_left hl]; exact h
  | .un n a, k, ⟨x, hk, ha⟩ => by
    refine ⟨x, ?_, rep_mono hp a x ha⟩
    obtain ⟨r, rfl⟩ := hp
    have hl : k < o.length := (List.getElem?_eq_some_iff.1 hk).1
    rw [List.getElem?_append_left hl]; exact hk
  | .bin n a b, k, ⟨x, y, hk, ha, hb⟩ => by
    refine ⟨x, y, ?_, rep_mono hp a x ha, rep_mono hp b y hb⟩
    obtain ⟨r, rfl⟩ := hp
    have hl : k < o.length := (List.getElem?_eq_some_iff.1 hk).1
    rw [List.getElem?_append_left hl]; exact hk
theorem putNd_pre (o : List Nd) (n : Nd) : o <+: (putNd o n).2 := by
  unfold putNd
  split
  · exact List.prefix_refl _
  · exact List.prefix_append _ _
theorem putNd_at (o : List Nd) (n : Nd) : (putNd o n).2[(putNd o n).1]? = some n := by
  unfold putNd
  split
  · rename_i h
    show o[o.idxOf n]? = some n
    rw [List.getElem?_eq_getElem (List.idxOf_lt_length_of_mem h)]
    simp
  · show (o ++ [n])[o.length]? = some n
    simp
theorem putNd_nodup {o : List Nd} (h : o.Nodup) (n : Nd) : (putNd o n).2.Nodup := by
  unfold putNd
  split
  · exact h
  · rename_i hn
    show (o ++ [n]).Nodup
    rw [List.nodup_append]
    exact ⟨h, by simp, fun a ha b hb e => hn (by rw [List.mem_singleton.1 hb] at e; rw [← e]; exact ha)⟩
theorem putNd_len (o : List Nd) (n : Nd) : (putNd o n).2.length ≤ o.length + 1 ∧ (putNd o n).1 < (putNd o n).2.length := by
  refine ⟨?_, (List.getElem?_eq_some_iff.1 (putNd_at o n)).1⟩
  unfold putNd
  split
  · show o.length ≤ _; omega
  · show (o ++ [n]).length ≤ _; simp
theorem finT_pre : ∀ (t : Tr) (o : List Nd), o <+: (finT t o).2
  | .leaf n, o => putNd_pre o n
  | .un _n a, o => (finT_pre a o).trans (putNd_pre _ _)
  | .bin _n a b, o => ((finT_pre a o).trans (finT_pre b _)).trans (putNd_pre _ _)
theorem finT_rep : ∀ (t : Tr) (o : List Nd), rep (finT t o).2 (finT t o).1 t
  | .leaf n, o => putNd_at o n
  | .un _n a, o => ⟨_, putNd_at _ _, rep_mono (putNd_pre _ _) a _ (finT_rep a o)⟩
  | .bin _n a b, o => ⟨_, _, putNd_at _ _, rep_mono (putNd_pre _ _) a _ (rep_mono (finT_pre b _) a _ (finT_rep a o)), rep_mono (putNd_pre _ _) b _ (finT_rep b _)⟩
/-- what a tree is made of: the fields that an operator does not use are 0, and it has the operands that it uses -/
def trOk : Tr → Prop
  | .leaf n => usesX n.op = false ∧ usesY n.op = false ∧ bare n = n
  | .un n a => usesX n.op = true ∧ usesY n.op = false ∧ bare n = n ∧ trOk a
  | .bin n a b => usesX n.op = true ∧ usesY n.op = true ∧ bare n = n ∧ trOk a ∧ trOk b
/-- the nodes of a tree, without numbers -/
def trAll (P : Nd → Prop) : Tr → Prop
  | .leaf n => P n
  | .un n a => P n ∧ trAll P a
  | .bin n a b => P n ∧ trAll P a ∧ trAll P b
/-- the operands that are used are earlier nodes, the others are 0 -/
def opsOk (n : Nd) (k : Nat) : Prop :=
  (if usesX n.op = true then 0 ≤ n.x ∧ n.x < (k : Int) else n.x = 0) ∧ (if usesY n.op = true then 0 ≤ n.y ∧ n.y < (k : Int) else n.y = 0)
def opsL (f : List Nd) : Prop := ∀ i, i < f.length → opsOk (f.getD i nd0) i
theorem usesY_X {op : Int} (h : usesY op = true) : usesX op = true := by
  unfold usesY at h
  unfold usesX
  simp only [Bool.or_eq_true, Bool.and_eq_true, decide_eq_true_eq] at h ⊢
  omega
theorem getD_some {o : List Nd} {k : Nat} {n : Nd} (h : o[k]? = some n) : o.getD k nd0 = n := by
  rw [List.getD_eq_getElem?_getD, h]; rfl
theorem bare_x {n : Nd} (h : bare n = n) : n.x = 0 ∧ n.y = 0 := by rw [← h]; exact ⟨rfl, rfl⟩
theorem opsL_put {o : List Nd} (h : opsL o) {n : Nd} (hn : opsOk n o.length) : opsL (putNd o n).2 := by
  unfold putNd
  split
  · exact h
  · intro i hi
    have hi2 : i < o.length + 1 := by simpa using hi
    by_cases e : i = o.length
    · subst e
      show opsOk ((o ++ [n]).getD o.length nd0) o.length
      rw [getD_some (n := n) (by simp)]
      exact hn
    · have hl : i < o.length := by omega
      have : (o ++ [n]).getD i nd0 = o.getD i nd0 := by
        rw [List.getD_eq_getElem?_getD, List.getElem?_append_left hl, ← List.getD_eq_getElem?_getD]
      show opsOk ((o ++ [n]).getD i nd0) i
      rw [this]
      exact h i hl
theorem finT_lt (t : Tr) (o : List Nd) : (finT t o).1 < (finT t o).2.length := by
  cases t
  · exact (putNd_len _ _).2
  · exact (putNd_len _ _).2
  · exact (putNd_len _ _).2
theorem finT_ops : ∀ (t : Tr) {o : List Nd}, trOk t → opsL o → opsL (finT t o).2
  | .leaf n, o, ⟨h1, h2, h3⟩, h => by
    refine opsL_put h ⟨?_, ?_⟩
    · rw [if_neg (by simp [h1])]; exact (bare_x h3).1
    · rw [if_neg (by simp [h2])]; exact (bare_x h3).2
  | .un n a, o, ⟨h1, h2, h3, h4⟩, h => by
    have ha := finT_lt a o
    refine opsL_put (finT_ops a h4 h) ⟨?_, ?_⟩
    · show if usesX n.op = true then _ else _
      rw [if_pos h1]
      exact ⟨Int.natCast_nonneg _, by show ((finT a o).1 : Int) < _; omega⟩
    · show if usesY n.op = true then _ else _
      rw [if_neg (by simp [h2])]; exact (bare_x h3).2
  | .bin n a b, o, ⟨h1, h2, h3, h4, h5⟩, h => by
    have ha := finT_lt a o
    have hb := finT_lt b (finT a o).2
    have hp := (finT_pre b (finT a o).2).length_le
    refine opsL_put (finT_ops b h5 (finT_ops a h4 h)) ⟨?_, ?_⟩
    · show if usesX n.op = true then _ else _
      rw [if_pos h1]
      exact ⟨Int.natCast_nonneg _, by show ((finT a o).1 : Int) < _; omega⟩
    · show if usesY n.op = true then _ else _
      rw [if_pos h2]
      exact ⟨Int.natCast_nonneg _, by show ((finT b (finT a o).2).1 : Int) < _; omega⟩
theorem putNd_all {P : Nd → Prop} {o : List Nd} (h : ∀ n ∈ o, P (bare n)) {n : Nd} (hn : P (bare n)) : ∀ m ∈ (putNd o n).2, P (bare m) := by
  unfold putNd
  split
  · exact h
  · intro m hm
    rcases List.mem_append.1 hm with hm | hm
    · exact h m hm
    · rw [List.mem_singleton.1 hm]; exact hn
theorem finT_all {P : Nd → Prop} : ∀ (t : Tr) {o : List Nd}, trOk t → trAll P t → (∀ n ∈ o, P (bare n)) → ∀ n ∈ (finT t o).2, P (bare n)
  | .leaf n, o, ⟨_, _, h3⟩, hp, h => putNd_all h (by rw [h3]; exact hp)
  | .un n a, o, ⟨_, _, h3, h4⟩, ⟨hp, ha⟩, h => putNd_all (finT_all a h4 ha h) (by show P (bare n); rw [h3]; exact hp)
  | .bin n a b, o, ⟨_, _, h3, h4, h5⟩, ⟨hp, ha, hb⟩, h => putNd_all (finT_all b h5 hb (finT_all a h4 ha h)) (by show P (bare n); rw [h3]; exact hp)
theorem opsOk_x {n : Nd} {k : Nat} (h : opsOk n k) (hu : usesX n.op = true) : 0 ≤ n.x ∧ n.x.toNat < k := by
  have := h.1
  rw [if_pos hu] at this
  omega
theorem opsOk_y {n : Nd} {k : Nat} (h : opsOk n k) (hu : usesY n.op = true) : 0 ≤ n.y ∧ n.y.toNat < k := by
  have := h.2
  rw [if_pos hu] at this
  omega
theorem treeF_fuel {f : List Nd} (hf : opsL f) : ∀ (m i : Nat), i < m → i < f.length → treeF f m i = treeAt f i := by
  have key : ∀ (m m' i : Nat), i < m → i < m' → i < f.length → treeF f m i = treeF f m' i := by
    intro m
    induction m with
    | zero => intro m' i h; omega
    | succ m ih =>
      intro m' i h1 h2 hl
      cases m' with
      | zero => omega
      | succ m' =>
        have ho := hf i hl
        unfold treeF
        simp only
        split
        · rename_i hy
          have hx := opsOk_x ho (usesY_X hy)
          have hy2 := opsOk_y ho hy
          rw [ih m' _ (by omega) (by omega) (by omega), ih m' _ (by omega) (by omega) (by omega)]
        · split
          · rename_i _ hx
            have hx := opsOk_x ho hx
            rw [ih m' _ (by omega) (by omega) (by omega)]
          · rfl
  intro m i h hl
  exact key m (i + 1) i h (by omega) hl
theorem treeAt_eq {f : List Nd} (hf : opsL f) {i : Nat} (hi : i < f.length) :
    treeAt f i = (if usesY (f.getD i nd0).op = true then .bin (bare (f.getD i nd0)) (treeAt f (f.getD i nd0).x.toNat) (treeAt f (f.getD i nd0).y.toNat)
      else if usesX (f.getD i nd0).op = true then .un (bare (f.getD i nd0)) (treeAt f (f.getD i nd0).x.toNat) else .leaf (bare (f.getD i nd0))) := by
  have ho := hf i hi
  show treeF f (i + 1) i = _
  unfold treeF
  simp only
  split
  · rename_i hy
    have hx := opsOk_x ho (usesY_X hy)
    have hy2 := opsOk_y ho hy
    rw [treeF_fuel hf i _ hx.2 (by omega), treeF_fuel hf i _ hy2.2 (by omega)]
  · split
    · rename_i _ hx
      have hx := opsOk_x ho hx
      rw [treeF_fuel hf i _ hx.2 (by omega)]
    · rfl
theorem treeAt_ok {f : List Nd} (hf : opsL f) : ∀ (k i : Nat), i < k → i < f.length → trOk (treeAt f i) := by
  intro k
  induction k with
  | zero => intro i h; omega
  | succ k ih =>
    intro i h hi
    have ho := hf i hi
    rw [treeAt_eq hf hi]
    split
    · rename_i hy
      have hx := opsOk_x ho (usesY_X hy)
      have hy2 := opsOk_y ho hy
      exact ⟨usesY_X hy, hy, rfl, ih _ (by omega) (by omega), ih _ (by omega) (by omega)⟩
    · rename_i hy
      split
      · rename_i hx
        have hx2 := opsOk_x ho hx
        exact ⟨hx, Bool.eq_false_iff.2 hy, rfl, ih _ (by omega) (by omega)⟩
      · rename_i hx
        exact ⟨Bool.eq_false_iff.2 hx, Bool.eq_false_iff.2 hy, rfl⟩
theorem treeAt_all {P : Nd → Prop} {f : List Nd} (hf : opsL f) (hP : ∀ n ∈ f, P (bare n)) : ∀ (k i : Nat), i < k → i < f.length → trAll P (treeAt f i) := by
  intro k
  induction k with
  | zero => intro i h; omega
  | succ k ih =>
    intro i h hi
    have ho := hf i hi
    have hp : P (bare (f.getD i nd0)) := by
      have : f.getD i nd0 = f[i] := by simp [hi]
      rw [this]; exact hP _ (List.getElem_mem hi)
    rw [treeAt_eq hf hi]
    split
    · rename_i hy
      have hx := opsOk_x ho (usesY_X hy)
      have hy2 := opsOk_y ho hy
      exact ⟨hp, ih _ (by omega) (by omega), ih _ (by omega) (by omega)⟩
    · split
      · rename_i _ hx
        have hx2 := opsOk_x ho hx
        exact ⟨hp, ih _ (by omega) (by omega)⟩
      · exact hp
/-- what the walk knows: its list has no equal nodes, and each finished node's tree lies in it -/
structure WkOk (f : List Nd) (s : Wk) : Prop where
  len : s.done.length = f.length
  nodup : s.out.Nodup
  there : ∀ j k, s.done.getD j none = some k → j < f.length ∧ rep s.out k (treeAt f j)
theorem getD_set {l : List (Option Nat)} {i j : Nat} {v : Option Nat} (h : i < l.length) : (l.set i v).getD j none = if i = j then v else l.getD j none := by
  rw [List.getD_eq_getElem?_getD, List.getElem?_set, List.getD_eq_getElem?_getD]
  by_cases e : i = j
  · rw [if_pos e, if_pos e, if_pos h]; rfl
  · rw [if_neg e, if_neg e]
/-- the walk over the list is the walk over the tree -/
theorem finW_tree {f : List Nd} (hf : opsL f) : ∀ (fuel i : Nat) (s : Wk), i < fuel → i < f.length → WkOk f s →
    (finW f fuel i s).1 = (finT (treeAt f i) s.out).1 ∧ (finW f fuel i s).2.out = (finT (treeAt f i) s.out).2 ∧ WkOk f (finW f fuel i s).2 ∧
      (finW f fuel i s).2.done.getD i none = some (finW f fuel i s).1 ∧ (∀ j, i < j → (finW f fuel i s).2.done.getD j none = s.done.getD j none) := by
  intro fuel
  induction fuel with
  | zero => intro i s h; omega
  | succ fuel ih =>
    intro i s h hi hs
    unfold finW
    cases hd : s.done.getD i none with
    | some k =>
      have hr := (hs.there i k hd).2
      simp only
      rw [finT_old hs.nodup _ _ hr]
      exact ⟨rfl, rfl, hs, hd, fun _ _ => trivial⟩
    | none =>
      simp only
      have ho := hf i hi
      rw [treeAt_eq hf hi]
      have fin : ∀ (t : Tr) (r : Nat × Wk) (m : Nd), WkOk f r.2 → finT t s.out = putNd r.2.out m → treeAt f i = t → (∀ j, i ≤ j → r.2.done.getD j none = s.done.getD j none) →
          (putNd r.2.out m).1 = (finT t s.out).1 ∧ (putNd r.2.out m).2 = (finT t s.out).2 ∧ WkOk f ⟨(putNd r.2.out m).2, r.2.done.set i (some (putNd r.2.out m).1)⟩ ∧
          (r.2.done.set i (some (putNd r.2.out m).1)).getD i none = some (putNd r.2.out m).1 ∧ (∀ j, i < j → (r.2.done.set i (some (putNd r.2.out m).1)).getD j none = s.done.getD j none) := by
        intro t r m hw he ht hg
        have hl : i < r.2.done.length := by rw [hw.len]; exact hi
        refine ⟨by rw [he], by rw [he], ⟨by show (r.2.done.set i _).length = _; rw [List.length_set, hw.len], putNd_nodup hw.nodup m, fun j k hj => ?_⟩, by rw [getD_set hl, if_pos rfl], fun j hj => by rw [getD_set hl, if_neg (by omega)]; exact hg j (by omega)⟩
        rw [getD_set hl] at hj
        by_cases e : i = j
        · rw [if_pos e] at hj
          injection hj with hj
          subst e; subst hj
          refine ⟨hi, ?_⟩
          show rep (putNd r.2.out m).2 _ _
          rw [ht, ← he]
          exact finT_rep t s.out
        · rw [if_neg e] at hj
          obtain ⟨h1, h2⟩ := hw.there j k hj
          exact ⟨h1, rep_mono (putNd_pre _ _) _ _ h2⟩
      by_cases hy : usesY (f.getD i nd0).op = true
      · have hx := usesY_X hy
        have ox := opsOk_x ho hx
        have oy := opsOk_y ho hy
        rw [if_pos hx, if_pos hy, if_pos hy]
        obtain ⟨a1, a2, a3, a4, a5⟩ := ih (f.getD i nd0).x.toNat s (by omega) (by omega) hs
        obtain ⟨b1, b2, b3, b4, b5⟩ := ih (f.getD i nd0).y.toNat (finW f fuel (f.getD i nd0).x.toNat s).2 (by omega) (by omega) a3
        refine fin (.bin (bare (f.getD i nd0)) (treeAt f (f.getD i nd0).x.toNat) (treeAt f (f.getD i nd0).y.toNat)) (finW f fuel (f.getD i nd0).y.toNat (finW f fuel (f.getD i nd0).x.toNat s).2) _ b3 ?_ (by rw [treeAt_eq hf hi, if_pos hy]) (fun j hj => by rw [b5 j (by omega), a5 j (by omega)])
        rw [b2, b1, a2, a1]
        rfl
      · rw [if_neg hy, if_neg hy]
        have e2 : (f.getD i nd0).y = 0 := by have := ho.2; rw [if_neg hy] at this; exact this
        by_cases hx : usesX (f.getD i nd0).op = true
        · have ox := opsOk_x ho hx
          rw [if_pos hx, if_pos hx]
          obtain ⟨a1, a2, a3, a4, a5⟩ := ih (f.getD i nd0).x.toNat s (by omega) (by omega) hs
          refine fin (.un (bare (f.getD i nd0)) (treeAt f (f.getD i nd0).x.toNat)) (finW f fuel (f.getD i nd0).x.toNat s) _ a3 ?_ (by rw [treeAt_eq hf hi, if_neg hy, if_pos hx]) (fun j hj => by rw [a5 j (by omega)])
          rw [a2, a1]
          show putNd _ { bare (f.getD i nd0) with x := _ } = putNd _ { f.getD i nd0 with x := _, y := _ }
          congr 1
          show Nd.mk _ _ _ _ _ 0 = Nd.mk _ _ _ _ _ (((f.getD i nd0).y.toNat : Nat) : Int)
          rw [e2]; rfl
        · have e1 : (f.getD i nd0).x = 0 := by have := ho.1; rw [if_neg hx] at this; exact this
          rw [if_neg hx, if_neg hx]
          refine fin (.leaf (bare (f.getD i nd0))) ((f.getD i nd0).x.toNat, s) _ hs ?_ (by rw [treeAt_eq hf hi, if_neg hy, if_neg hx]) (fun j hj => rfl)
          show putNd _ (bare _) = putNd _ _
          congr 1
          show Nd.mk _ _ _ _ 0 0 = Nd.mk _ _ _ _ (((f.getD i nd0).x.toNat : Nat) : Int) (((f.getD i nd0).y.toNat : Nat) : Int)
          rw [e1, e2]; rfl
/-- the canonical list of a tree -/
def canT (t : Tr) : List Nd := (finT t []).2
theorem wk0 (f : List Nd) : WkOk f ⟨[], List.replicate f.length none⟩ := by
  refine ⟨by simp, List.nodup_nil, fun j k h => ?_⟩
  have h : (List.replicate f.length (none : Option Nat)).getD j none = some k := h
  rw [List.getD_eq_getElem?_getD, List.getElem?_replicate] at h
  split at h <;> cases h
theorem walk_tree {f : List Nd} (hf : opsL f) {fuel i : Nat} (h : i < fuel) (hi : i < f.length) : (finW f fuel i ⟨[], List.replicate f.length none⟩).2.out = canT (treeAt f i) :=
  (finW_tree hf fuel i _ h hi (wk0 f)).2.1
theorem canonF_tree {f : List Nd} (hf : opsL f) (hn : f ≠ []) : canonF f = canT (treeAt f (f.length - 1)) := by
  have : f.length ≠ 0 := by simpa using hn
  exact walk_tree hf (by omega) (by omega)
theorem take_getD {f : List Nd} {m j : Nat} (h : j < m) : (f.take m).getD j nd0 = f.getD j nd0 := by
  rw [List.getD_eq_getElem?_getD, List.getElem?_take, if_pos h, List.getD_eq_getElem?_getD]
theorem opsL_take {f : List Nd} (hf : opsL f) (m : Nat) : opsL (f.take m) := by
  intro i hi
  rw [List.length_take] at hi
  rw [take_getD (by omega)]
  exact hf i (by omega)
theorem canT_ops {t : Tr} (h : trOk t) : opsL (canT t) := finT_ops t h (fun i hi => absurd hi (by simp))
end Go.Proofs.Ws
/- Lists of words in cells, and memory of the call's own (no function of the program is named). -/
namespace Go.Proofs.YtopkmcoblndokaaDoor
open Go.RowKit Go.Proofs.Ws
theorem quiet_same {P : Program} {f : FuncId} {args : Array Value} {X : Nat → World} {n : Nat} {v : Value} (h : Calls P f args (X n) fun e w' => e = .returned v ∧ X n = w') :
    Calls P f args (X n) fun e w'' => e = .returned v ∧ ∃ m, w'' = X m := h.mono fun _ _ ⟨he, hm⟩ => ⟨he, n, hm.symm⟩
theorem quiet_drew {P : Program} {f : FuncId} {args : Array Value} {w : World} {q n : Nat} {v : Value} (h : Calls P f args ((w.drewN q).drewN n) fun e w' => e = .returned v ∧ ∃ k, w' = ((w.drewN q).drewN n).drewN k) :
    Calls P f args ((w.drewN q).drewN n) fun e w'' => e = .returned v ∧ ∃ m, w'' = (w.drewN q).drewN m := h.mono fun _ _ ⟨he, k, hm⟩ => ⟨he, n + k, by rw [hm]; simp [Nat.add_assoc]⟩
/-- a list of words in cells -/
def us (l : List Nat) : List Value := l.map (fun k : Nat => Value.int .u64 (k : Int))
theorem us_length (l : List Nat) : (us l).length = l.length := by simp [us]
/-- each is a word -/
def Words (l : List Nat) : Prop := ∀ x ∈ l, x < 18446744073709551616
theorem Reads.word_at {w : World} {B n : Nat} {A : Option Addr} {l : List Nat} (h : Reads w B 1 A n (us l)) {k : Nat} (hk : k < n) :
    ∃ ad x, A = some ad ∧ ad.block < B ∧ k < l.length ∧ l.getD k 0 = x ∧ x ∈ l ∧ l.drop k = x :: l.drop (k + 1) ∧ w.cell? (ad.add k) = some (.int .u64 (x : Int)) := by
  obtain ⟨ad, u, hA, hb, hu, hc⟩ := h.at_ hk
  unfold us at hu
  rw [List.getElem?_map] at hu
  have hl : k < l.length := by have := h.1; rw [us_length] at this; omega
  rw [List.getElem?_eq_getElem hl] at hu
  simp at hu
  subst hu
  exact ⟨ad, l[k], hA, hb, hl, by rw [List.getD_eq_getElem?_getD, List.getElem?_eq_getElem hl]; rfl, List.getElem_mem hl, List.drop_eq_getElem_cons hl, hc⟩
theorem Reads.word_len {w : World} {B n : Nat} {A : Option Addr} {l : List Nat} (h : Reads w B 1 A n (us l)) : l.length = n := by have := h.1; rw [us_length] at this; omega
theorem words_getD {R : List Nat} (h : Words R) (k : Nat) : R.getD k 0 < 18446744073709551616 := by
  rw [List.getD_eq_getElem?_getD]
  by_cases hk : k < R.length
  · rw [List.getElem?_eq_getElem hk]; exact h _ (List.getElem_mem hk)
  · rw [List.getElem?_eq_none (by omega)]; decide
theorem allV_nat (n : Nat) (h : n ≤ 64) : allV (n : Int) = 2 ^ n - 1 := by unfold allV; rw [if_pos (by omega)]; rfl
/-- block g holds just these words -/
def HoldsU (w : World) (g : Nat) (l : List Nat) : Prop := w.heap[g]? = some (.cells (us l).toArray 27 (0, 0))
theorem Tryd.infoU : (Tryd.prog.info? 27).map (fun i => (i.zero, i.size, i.bytes)) = some (some (.int .u64 0), 1, 8) := by kernel_rfl
theorem made_us (n : Nat) : madeCells (Value.int IntKind.u64 0).cells n = (us (List.replicate n 0)).toArray := by
  apply Array.ext
  · simp [madeCells, us]
  · intro i h1 h2
    simp [madeCells, us, Value.cells, Nat.mod_one]
theorem makeU (w : World) (n : Nat) (hn : n ≤ 1000000) : (Instr.makeSlice 53 (.int .i64 (n : Int)) (.int .i64 (n : Int))).run Tryd.prog w = .ok (.slice (some ⟨w.heap.size, 0, none⟩) n n) (w.alloc (.cells (us (List.replicate n 0)).toArray 27)) := by
  obtain ⟨i0, hi, hz0, hz1, hz2⟩ := info_parts Tryd.infoU
  have h := run_make (P := Tryd.prog) w 53 27 i0 (.int .u64 0) Tryd.underlying53 hi hz0 .i64 .i64 n n (by omega) (Int.le_refl _) (by rw [hz2]; omega) (by omega)
  rw [h, hz1]
  simp only [Int.toNat_natCast, Nat.mul_one]
  rw [made_us]
theorem HoldsU.cell {w : World} {g : Nat} {l : List Nat} (h : HoldsU w g l) (k : Nat) (hk : k < l.length) : w.cell? ⟨g, k, none⟩ = some (.int .u64 ((l.getD k 0 : Nat) : Int)) := by
  rw [Lib.cell_of_heap h, List.getElem?_toArray]
  unfold us
  rw [List.getElem?_map, List.getElem?_eq_getElem hk, List.getD_eq_getElem?_getD, List.getElem?_eq_getElem hk]
  rfl
theorem HoldsU.free {w : World} {g : Nat} {l : List Nat} (h : HoldsU w g l) (k : Nat) : w.frozen? ⟨g, k, none⟩ = false := Lib.frozen_of_heap h k
theorem HoldsU.put {w : World} {g : Nat} {l : List Nat} (h : HoldsU w g l) (k x : Nat) : HoldsU (w.setCell ⟨g, k, none⟩ (.int .u64 (x : Int))) g (l.set k x) := by
  unfold HoldsU at h ⊢
  have e : (us (l.set k x)).toArray = (us l).toArray.setIfInBounds k (.int .u64 (x : Int)) := by
    unfold us
    rw [List.map_set]
    simp
  rw [e]
  simp [World.setCell, Array.getElem?_modify, h]
theorem HoldsU.far {w : World} {g g' : Nat} {l : List Nat} (h : HoldsU w g l) (hne : g ≠ g') (k : Nat) (u : Value) : HoldsU (w.setCell ⟨g', k, none⟩ u) g l :=
  (Below.heap_setCell w ⟨g', k, none⟩ u g hne).trans h
theorem HoldsU.made (w : World) (l : List Nat) : HoldsU (w.alloc (.cells (us l).toArray 27)) w.heap.size l := heap_alloc_new w _
theorem HoldsU.lt {w : World} {g : Nat} {l : List Nat} (h : HoldsU w g l) : g < w.heap.size := (Array.getElem?_eq_some_iff.1 h).1
theorem HoldsU.alloc {w : World} {g : Nat} {l : List Nat} (h : HoldsU w g l) (o : Obj) : HoldsU (w.alloc o) g l := (Below.heap_alloc w o g h.lt).trans h
theorem addr0 (g j : Nat) : (⟨g, 0, none⟩ : Addr).add j = ⟨g, j, none⟩ := by
  unfold Addr.add
  split
  · subst_vars; rfl
  · simp
theorem HoldsU.reads {w : World} {g : Nat} {l : List Nat} (h : HoldsU w g l) : Reads w w.heap.size 1 (some ⟨g, 0, none⟩) l.length (us l) := by
  refine ⟨by rw [us_length]; omega, fun _ => ⟨_, rfl, h.lt, fun j u hu => ?_⟩⟩
  rw [addr0]
  unfold us at hu
  rw [List.getElem?_map] at hu
  obtain ⟨k, hk, rfl⟩ := Option.map_eq_some_iff.1 hu
  have hj : j < l.length := by
    by_cases h' : j < l.length
    · exact h'
    · rw [List.getElem?_eq_none (by omega)] at hk; cases hk
  rw [h.cell j hj, List.getD_eq_getElem?_getD, hk]; rfl
theorem HoldsU.below {w w' : World} {B g : Nat} {l : List Nat} (h : HoldsU w g l) (hb : Below B w w') (hg : g < B) : HoldsU w' g l := (hb.block g hg).trans h
theorem Reads.word_k {w : World} {B n : Nat} {A : Option Addr} {l : List Nat} (h : Reads w B 1 A n (us l)) {k : Nat} (hk : k < n) :
    ∃ ad, A = some ad ∧ ad.block < B ∧ w.cell? (ad.add k) = some (.int .u64 ((l.getD k 0 : Nat) : Int)) := by
  obtain ⟨ad, x, hA, hb, _, hx, _, _, hc⟩ := h.word_at hk
  exact ⟨ad, hA, hb, by rw [hx]; exact hc⟩
/-- whatever lay below B, block g apart, lies as it lay -/
structure BelowBut (B g : Nat) (w w' : World) : Prop where
  os : w'.os = w.os
  tape : w'.tape = w.tape
  output : w'.output = w.output
  size : w.heap.size ≤ w'.heap.size
  block : ∀ k, k < B → k ≠ g → w'.heap[k]? = w.heap[k]?
theorem BelowBut.refl (B g : Nat) (w : World) : BelowBut B g w w := ⟨rfl, rfl, rfl, Nat.le_refl _, fun _ _ _ => rfl⟩
theorem BelowBut.of {B : Nat} {w w' : World} (h : Below B w w') (g : Nat) : BelowBut B g w w' := ⟨h.os, h.tape, h.output, h.size, fun k hk _ => h.block k hk⟩
theorem BelowBut.trans {B g : Nat} {a b c : World} (h : BelowBut B g a b) (k : BelowBut B g b c) : BelowBut B g a c :=
  ⟨k.os.trans h.os, k.tape.trans h.tape, k.output.trans h.output, Nat.le_trans h.size k.size, fun j hj hg => (k.block j hj hg).trans (h.block j hj hg)⟩
theorem BelowBut.setCell {B g : Nat} {a w : World} (h : BelowBut B g a w) (k : Nat) (u : Value) : BelowBut B g a (w.setCell ⟨g, k, none⟩ u) := by
  have e : BelowBut B g w (w.setCell ⟨g, k, none⟩ u) := by
    have b := (Below.refl 0 w).setCell (p := ⟨g, k, none⟩) (Nat.zero_le _) u
    exact ⟨b.os, b.tape, b.output, b.size, fun j _ hg => Below.heap_setCell w ⟨g, k, none⟩ u j hg⟩
  exact h.trans e
theorem BelowBut.drew {B g : Nat} {a w : World} (h : BelowBut B g a w) : BelowBut B g a w.drew := ⟨h.os, h.tape, h.output, h.size, h.block⟩
theorem BelowBut.mono {B B' g : Nat} {w w' : World} (h : BelowBut B g w w') (hB : B' ≤ B) : BelowBut B' g w w' := ⟨h.os, h.tape, h.output, h.size, fun k hk hg => h.block k (Nat.lt_of_lt_of_le hk hB) hg⟩
/-- what lay below g too lies as it lay -/
theorem BelowBut.below {B g : Nat} {w w' : World} (h : BelowBut B g w w') (hg : B ≤ g) : Below B w w' := ⟨h.os, h.tape, h.output, h.size, fun k hk => h.block k hk (by omega)⟩
/-- block g holds these words, and maybe more behind them -/
def HoldsP (w : World) (g : Nat) (l : List Nat) : Prop := ∃ pad : List Value, w.heap[g]? = some (.cells (us l ++ pad).toArray 27 (0, 0))
theorem HoldsU.pad {w : World} {g : Nat} {l : List Nat} (h : HoldsU w g l) : HoldsP w g l := ⟨[], by rw [List.append_nil]; exact h⟩
theorem HoldsP.cell {w : World} {g : Nat} {l : List Nat} (h : HoldsP w g l) (k : Nat) (hk : k < l.length) : w.cell? ⟨g, k, none⟩ = some (.int .u64 ((l.getD k 0 : Nat) : Int)) := by
  obtain ⟨pad, h⟩ := h
  rw [Lib.cell_of_heap h, List.getElem?_toArray, List.getElem?_append_left (by rw [us_length]; exact hk)]
  unfold us
  rw [List.getElem?_map, List.getElem?_eq_getElem hk, List.getD_eq_getElem?_getD, List.getElem?_eq_getElem hk]
  rfl
theorem HoldsP.free {w : World} {g : Nat} {l : List Nat} (h : HoldsP w g l) (k : Nat) : w.frozen? ⟨g, k, none⟩ = false := by
  obtain ⟨pad, h⟩ := h
  exact Lib.frozen_of_heap h k
theorem HoldsP.put {w : World} {g : Nat} {l : List Nat} (h : HoldsP w g l) (k x : Nat) : HoldsP (w.setCell ⟨g, k, none⟩ (.int .u64 (x : Int))) g (l.set k x) := by
  obtain ⟨pad, h⟩ := h
  by_cases hk : k < l.length
  · refine ⟨pad, ?_⟩
    have e : (us (l.set k x) ++ pad).toArray = (us l ++ pad).toArray.setIfInBounds k (.int .u64 (x : Int)) := by
      unfold us
      rw [List.map_set]
      simp [hk]
    rw [e]
    simp [World.setCell, Array.getElem?_modify, h]
  · refine ⟨pad.set (k - l.length) (.int .u64 (x : Int)), ?_⟩
    have e : (us (l.set k x) ++ pad.set (k - l.length) (.int .u64 (x : Int))).toArray = (us l ++ pad).toArray.setIfInBounds k (.int .u64 (x : Int)) := by
      rw [List.set_eq_of_length_le (by omega)]
      simp [List.set_append, us_length, hk]
    rw [e]
    simp [World.setCell, Array.getElem?_modify, h]
theorem HoldsP.lt {w : World} {g : Nat} {l : List Nat} (h : HoldsP w g l) : g < w.heap.size := by
  obtain ⟨pad, h⟩ := h
  exact (Array.getElem?_eq_some_iff.1 h).1
theorem HoldsP.below {w w' : World} {B g : Nat} {l : List Nat} (h : HoldsP w g l) (hb : Below B w w') (hg : g < B) : HoldsP w' g l := by
  obtain ⟨pad, h⟩ := h
  exact ⟨pad, (hb.block g hg).trans h⟩
theorem HoldsP.reads {w : World} {g : Nat} {l : List Nat} (h : HoldsP w g l) : Reads w w.heap.size 1 (some ⟨g, 0, none⟩) l.length (us l) := by
  refine ⟨by rw [us_length]; omega, fun _ => ⟨_, rfl, h.lt, fun j u hu => ?_⟩⟩
  rw [addr0]
  unfold us at hu
  rw [List.getElem?_map] at hu
  obtain ⟨k, hk, rfl⟩ := Option.map_eq_some_iff.1 hu
  have hj : j < l.length := by
    by_cases h' : j < l.length
    · exact h'
    · rw [List.getElem?_eq_none (by omega)] at hk; cases hk
  rw [h.cell j hj, List.getD_eq_getElem?_getD, hk]; rfl
end Go.Proofs.YtopkmcoblndokaaDoor
/- Layer 5 as plain mathematics: subtrees, which nodes are used, lengths of canonical lists. -/
namespace Go.Proofs.Ws
open Go
end Go.Proofs.Ws
namespace Go.Proofs.Ws
open Go
/-- node j uses node k -/
def uses (o : List Nd) (j k : Nat) : Prop := j < o.length ∧ ((usesX (o.getD j nd0).op = true ∧ (o.getD j nd0).x = (k : Int)) ∨ (usesY (o.getD j nd0).op = true ∧ (o.getD j nd0).y = (k : Int)))
end Go.Proofs.Ws
namespace Go.Proofs.Ws
open Go
end Go.Proofs.Ws
/- Layer 9 as plain mathematics: a formula at 64 valuations at once. -/
namespace Go.Proofs.Ws
open Go
def w64 : Nat := 2 ^ 64 - 1
/-- the word of a node, of those of its operands; g: that of an atom -/
def wNode (op : Int) (x y g : Nat) : Nat :=
  if op = 1 then w64 else if op = 2 then 0 else if op = 4 then w64 ^^^ x else if op = 5 then x &&& y else if op = 6 then x ||| y else if op = 7 then (w64 ^^^ x) ||| y else if op = 8 then w64 ^^^ (x ^^^ y) else g
/-- the words of the nodes, operands first; g: the words of the atoms by their places -/
def wL (q : List Nd) (g : List Nat) : Nat → List Nat
  | 0 => []
  | i + 1 => wL q g i ++ [wNode (q.getD i nd0).op ((wL q g i).getD (q.getD i nd0).x.toNat 0) ((wL q g i).getD (q.getD i nd0).y.toNat 0) (g.getD i 0)]
theorem wL_len (q : List Nd) (g : List Nat) : ∀ i, (wL q g i).length = i
  | 0 => rfl
  | i + 1 => by show (wL q g i ++ [_]).length = _; rw [List.length_append, wL_len q g i]; rfl
theorem wNode_lt (op : Int) {x y g : Nat} (hx : x < 2 ^ 64) (hy : y < 2 ^ 64) (hg : g < 2 ^ 64) : wNode op x y g < 2 ^ 64 := by
  have hw : w64 < 2 ^ 64 := by decide
  unfold wNode
  repeat' split
  · exact hw
  · decide
  · exact Nat.xor_lt_two_pow hw hx
  · exact Nat.and_lt_two_pow x hy
  · exact Nat.or_lt_two_pow hx hy
  · exact Nat.or_lt_two_pow (Nat.xor_lt_two_pow hw hx) hy
  · exact Nat.xor_lt_two_pow hw (Nat.xor_lt_two_pow hx hy)
  · exact hg
/-- the columns of the facts: bit v of column i is bit i of v -/
def colN : Nat → Nat
  | 0 => 0xaaaaaaaaaaaaaaaa
  | 1 => 0xcccccccccccccccc
  | 2 => 0xf0f0f0f0f0f0f0f0
  | 3 => 0xff00ff00ff00ff00
  | 4 => 0xffff0000ffff0000
  | 5 => 0xffffffff00000000
  | _ => 0
theorem col_lt : ∀ i, colN i < 2 ^ 64
  | 0 => by decide
  | 1 => by decide
  | 2 => by decide
  | 3 => by decide
  | 4 => by decide
  | 5 => by decide
  | _ + 6 => by show (0 : Nat) < _; decide
/-- a truth table of n facts: the bits below 2 ^ n -/
def fullN (n : Nat) : Nat := 2 ^ (2 ^ n) - 1
end Go.Proofs.Ws
/- Layer 9 as plain mathematics: tautologies by words of 64 valuations. -/
namespace Go.Proofs.Ws
open Go
end Go.Proofs.Ws
/- Layer 9 as plain mathematics: the walk to the atoms, by recursion and by a stack; truth tables. -/
namespace Go.Proofs.Ws
open Go
/-- the operands of a node through which a walk to the atoms goes -/
def kids (n : Nd) : List Nat := if n.op = 4 then [n.x.toNat] else if 5 ≤ n.op ∧ n.op ≤ 8 then [n.x.toNat, n.y.toNat] else []
/-- the nodes met, in their order -/
structure TS where
  met : List Bool
  order : List Nat
def TS.mark (s : TS) (i : Nat) : TS := ⟨s.met.set i true, s.order ++ [i]⟩
/-- the stack -/
inductive StackR (q : List Nd) : List Nat → TS → TS → Prop where
  | nil (s : TS) : StackR q [] s s
  | skip {i : Nat} {S : List Nat} {s s' : TS} : s.met.getD i false = true → StackR q S s s' → StackR q (i :: S) s s'
  | visit {i : Nat} {S : List Nat} {s s' : TS} : s.met.getD i false = false → StackR q (kids (q.getD i nd0) ++ S) (s.mark i) s' → StackR q (i :: S) s s'
theorem StackR.fn {q : List Nd} {S : List Nat} {s a b : TS} (h : StackR q S s a) (k : StackR q S s b) : a = b := by
  induction h with
  | nil s => cases k; rfl
  | skip h1 _ ih =>
    cases k with
    | skip _ k2 => exact ih k2
    | visit k1 _ => rw [h1] at k1; cases k1
  | visit h1 _ ih =>
    cases k with
    | skip k1 _ => rw [h1] at k1; cases k1
    | visit _ k2 => exact ih k2
/-- what is met stands in the order once -/
structure MetOk (n : Nat) (s : TS) : Prop where
  len : s.met.length = n
  mem : ∀ i, i ∈ s.order ↔ s.met.getD i false = true
  nodup : s.order.Nodup
theorem getB_set {u : List Bool} {i j : Nat} (h : i < u.length) : (u.set i true).getD j false = if i = j then true else u.getD j false := by
  rw [List.getD_eq_getElem?_getD, List.getElem?_set]
  by_cases e : i = j
  · rw [if_pos e, if_pos e, if_pos h]; rfl
  · rw [if_neg e, if_neg e, ← List.getD_eq_getElem?_getD]
theorem MetOk.mark {n : Nat} {s : TS} (h : MetOk n s) {i : Nat} (hi : i < n) (hm : s.met.getD i false = false) : MetOk n (s.mark i) := by
  have hl := h.len
  refine ⟨by show (s.met.set i true).length = n; rw [List.length_set]; exact hl, fun j => ?_, ?_⟩
  · show j ∈ s.order ++ [i] ↔ (s.met.set i true).getD j false = true
    rw [getB_set (by omega), List.mem_append, List.mem_singleton, h.mem j]
    by_cases e : i = j
    · rw [if_pos e]; exact ⟨fun _ => rfl, fun _ => .inr e.symm⟩
    · rw [if_neg e]; exact ⟨fun k => k.resolve_right (fun k => e k.symm), .inl⟩
  · show (s.order ++ [i]).Nodup
    rw [List.nodup_append]
    refine ⟨h.nodup, by simp, fun a ha b hb e => ?_⟩
    rw [List.mem_singleton.1 hb] at e
    rw [e, h.mem i, hm] at ha
    cases ha
/-- the words of the facts -/
def factW (q : List Nd) : List Nat := q.map (fun n => if n.op = 3 then colN n.i.toNat else 0)
theorem factW_at (q : List Nd) {i : Nat} (h : i < q.length) : (factW q).getD i 0 = if (q.getD i nd0).op = 3 then colN (q.getD i nd0).i.toNat else 0 := by
  unfold factW
  rw [List.getD_eq_getElem?_getD, List.getElem?_map, List.getD_eq_getElem?_getD, List.getElem?_eq_getElem h]; rfl
end Go.Proofs.Ws
