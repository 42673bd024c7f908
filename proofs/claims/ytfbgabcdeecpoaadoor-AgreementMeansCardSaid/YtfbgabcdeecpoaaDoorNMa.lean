/- Layer 6: texts joined: Bm Bm2 Bm3 Bm4 Bm6 Aa Ab Pa Da Db. -/
import Derived.Lib.TrailingZeros
import Derived.Test.YtfbgabcdeecpoaaDoorProg
import Derived.WalkKit
import Derived.ProofKit
import Derived.BigQuiet
import Derived.Deep.QuietTactic
import Derived.Laws.BitsAll
import Derived.Laws.BitsAllLaws
import Derived.Lib.Hide
import Derived.IntWalk
import Derived.Laws.Bits128
import Derived.Below
import Derived.Laws.OwnMore
import Derived.Deep.AppendLies
import Derived.Deep.Draws
import Derived.OwnWalk
import Derived.LoopTactic
import Derived.Lib.Builder
namespace Go.Proofs.Ws
open Go

/-- The worlds of a set, ascending. -/
def mem (s : Nat) : List Nat := (List.range 64).filter (fun w => s.testBit w)

/-- the lowest world -/
def low (s : Nat) : Nat := Lib.ctz 64 s

theorem low_form (s : Nat) (h0 : s ≠ 0) (h : s < 2 ^ 64) : ∃ m, s = 2 ^ low s * (2 * m + 1) ∧ low s < 64 := by
  unfold low Lib.ctz
  rw [if_neg h0]
  exact Lib.ctzFrom_spec 64 s (by omega) h

theorem testBit_form (k m i : Nat) : (2 ^ k * (2 * m + 1)).testBit i = (decide (k ≤ i) && (decide (i = k) || m.testBit (i - k - 1))) := by
  rw [Nat.mul_comm, Nat.testBit_mul_two_pow]
  by_cases h : k ≤ i
  · simp only [h, decide_true, Bool.true_and]
    by_cases e : i = k
    · subst e; simp [Nat.testBit_zero]
    · obtain ⟨j, rfl⟩ : ∃ j, i = k + (j + 1) := ⟨i - k - 1, by omega⟩
      have e3 : k + (j + 1) - k = j + 1 := by omega
      have e4 : k + (j + 1) - k - 1 = j := by omega
      rw [e3, Nat.testBit_succ]
      have d1 : (2 * m + 1) / 2 = m := by omega
      rw [d1]
      simp
  · simp [h]

theorem pred_form (k m : Nat) : 2 ^ k * (2 * m + 1) - 1 = 2 ^ (k + 1) * m + (2 ^ k - 1) := by
  have hp : 0 < 2 ^ k := Nat.two_pow_pos k
  have e : 2 ^ k * (2 * m + 1) = 2 ^ (k + 1) * m + 2 ^ k := by
    rw [Nat.mul_add, Nat.pow_succ, Nat.mul_one, Nat.mul_assoc]
  omega

theorem testBit_pred (k m i : Nat) : (2 ^ k * (2 * m + 1) - 1).testBit i = (decide (i < k) || (decide (k < i) && m.testBit (i - k - 1))) := by
  rw [pred_form]
  have hlt : 2 ^ k - 1 < 2 ^ (k + 1) := by
    have := Nat.two_pow_pos k
    rw [Nat.pow_succ]; omega
  rw [Nat.testBit_two_pow_mul_add _ hlt]
  by_cases h : i < k + 1
  · rw [if_pos h, Nat.testBit_two_pow_sub_one]
    by_cases h2 : i < k
    · simp [h2]
    · have : ¬ k < i := by omega
      simp [h2, this]
  · rw [if_neg h]
    have h1 : ¬ i < k := by omega
    have h2 : k < i := by omega
    have e : i - (k + 1) = i - k - 1 := by omega
    simp [h1, h2, e]

/-- clearing the lowest world -/
theorem clear_low (s : Nat) (h0 : s ≠ 0) (h : s < 2 ^ 64) (i : Nat) : (s &&& (s - 1)).testBit i = (s.testBit i && !decide (i = low s)) := by
  obtain ⟨m, hm, hk⟩ := low_form s h0 h
  generalize low s = k at hm hk
  subst hm
  rw [Nat.testBit_and, testBit_pred, testBit_form]
  by_cases h1 : i < k
  · have : ¬ k ≤ i := by omega
    simp [this]
  · by_cases h2 : i = k
    · subst h2; simp
    · have h3 : k < i := by omega
      have h4 : k ≤ i := by omega
      simp [h1, h2, h3, h4]

theorem testBit_low (s : Nat) (h0 : s ≠ 0) (h : s < 2 ^ 64) : s.testBit (low s) = true := by
  obtain ⟨m, hm, hk⟩ := low_form s h0 h
  generalize low s = k at hm hk
  subst hm
  rw [testBit_form]; simp

theorem testBit_below (s : Nat) (h0 : s ≠ 0) (h : s < 2 ^ 64) (i : Nat) (hi : i < low s) : s.testBit i = false := by
  obtain ⟨m, hm, hk⟩ := low_form s h0 h
  generalize low s = k at hm hk hi
  subst hm
  rw [testBit_form]
  have : ¬ k ≤ i := by omega
  simp [this]

theorem and_pred_lt (s : Nat) (h0 : s ≠ 0) : s &&& (s - 1) < s := by
  have := Nat.and_le_right (n := s) (m := s - 1)
  omega

theorem filter_least (p q : Nat → Bool) (n k : Nat) (hk : k < n) (hp : p k = true) (hb : ∀ i, i < k → p i = false) (hq : ∀ i, q i = (p i && !decide (i = k))) :
    (List.range n).filter p = k :: (List.range n).filter q := by
  have e : List.range n = List.range k ++ k :: (List.range' (k + 1) (n - k - 1)) := by
    rw [List.range_eq_range', List.range_eq_range']
    have : n = k + (1 + (n - k - 1)) := by omega
    conv => lhs; rw [this]
    rw [← List.range'_append_1, ← List.range'_append_1]
    simp
  have f1 : (List.range k).filter p = [] := by
    rw [List.filter_eq_nil_iff]; intro a ha; rw [hb a (List.mem_range.1 ha)]; simp
  have f2 : (List.range k).filter q = [] := by
    rw [List.filter_eq_nil_iff]; intro a ha; rw [hq, hb a (List.mem_range.1 ha)]; simp
  have f3 : (List.range' (k + 1) (n - k - 1)).filter p = (List.range' (k + 1) (n - k - 1)).filter q := by
    apply List.filter_congr
    intro a ha
    rw [hq]
    have : k + 1 ≤ a := (List.mem_range'_1.1 ha).1
    have : ¬ a = k := by omega
    simp [this]
  rw [e, List.filter_append, List.filter_append, f1, f2, List.filter_cons_of_pos hp, List.filter_cons_of_neg (by rw [hq]; simp), f3]
  simp

theorem mem_step (s : Nat) (h0 : s ≠ 0) (h : s < 2 ^ 64) : mem s = low s :: mem (s &&& (s - 1)) := by
  obtain ⟨m, hm, hk⟩ := low_form s h0 h
  exact filter_least _ _ 64 (low s) hk (testBit_low s h0 h) (testBit_below s h0 h) (clear_low s h0 h)

theorem mem_zero : mem 0 = [] := by
  unfold mem; rw [List.filter_eq_nil_iff]; intro a _; simp

theorem mem_length_le (s : Nat) : (mem s).length ≤ 64 := by
  unfold mem
  have := List.length_filter_le (fun w => s.testBit w) (List.range 64)
  simpa using this

end Go.Proofs.Ws
/- How many bits are set: the arithmetic of the word-parallel count, byte by byte (no program in sight). -/
namespace Go.Proofs.Ws

def cnt : Nat → Nat → Nat
  | 0, _ => 0
  | k + 1, s => s % 2 + cnt k (s / 2)

theorem filter_len (k : Nat) : ∀ s : Nat, ((List.range k).filter (fun w => s.testBit w)).length = cnt k s := by
  induction k with
  | zero => intro s; rfl
  | succ k ih =>
    intro s
    rw [List.range_succ_eq_map, List.filter_cons]
    have e : (List.filter (fun w => s.testBit w) (List.map Nat.succ (List.range k))).length = cnt k (s / 2) := by
      rw [List.filter_map, List.length_map, ← ih (s / 2)]
      congr 2
      funext w
      simp [Nat.testBit_succ]
    have h2 : s % 2 = 0 ∨ s % 2 = 1 := by omega
    rw [cnt]
    rcases h2 with h2 | h2
    · rw [if_neg (by simp [Nat.testBit_zero, h2]), e, h2]; omega
    · rw [if_pos (by simp [Nat.testBit_zero, h2]), List.length_cons, e, h2]; omega

theorem mem_cnt (s : Nat) : (mem s).length = cnt 64 s := filter_len 64 s

theorem cnt_byte (k s : Nat) : cnt (8 + k) s = cnt 8 (s % 256) + cnt k (s / 256) := by
  rw [Nat.add_comm]
  simp only [cnt, Nat.div_div_eq_div_mul, Nat.reduceMul]
  have e0 : s % 256 % 2 = s % 2 := by omega
  have e1 : s % 256 / 2 % 2 = s / 2 % 2 := by omega
  have e2 : s % 256 / 4 % 2 = s / 4 % 2 := by omega
  have e3 : s % 256 / 8 % 2 = s / 8 % 2 := by omega
  have e4 : s % 256 / 16 % 2 = s / 16 % 2 := by omega
  have e5 : s % 256 / 32 % 2 = s / 32 % 2 := by omega
  have e6 : s % 256 / 64 % 2 = s / 64 % 2 := by omega
  have e7 : s % 256 / 128 % 2 = s / 128 % 2 := by omega
  rw [e0, e1, e2, e3, e4, e5, e6, e7]
  simp only [Nat.add_assoc, Nat.add_zero]

def M (c : Nat) : Nat → Nat
  | 0 => 0
  | n + 1 => c + 256 * M c n

theorem and_split (a b c d : Nat) (ha : a < 256) (hc : c < 256) : (a + 256 * b) &&& (c + 256 * d) = (a &&& c) + 256 * (b &&& d) := by
  have ha' : a < 2 ^ 8 := ha
  have hc' : c < 2 ^ 8 := hc
  have hac : a &&& c < 2 ^ 8 := Nat.lt_of_le_of_lt Nat.and_le_left ha'
  apply Nat.eq_of_testBit_eq
  intro i
  rw [show a + 256 * b = 2 ^ 8 * b + a from by omega, show c + 256 * d = 2 ^ 8 * d + c from by omega, show (a &&& c) + 256 * (b &&& d) = 2 ^ 8 * (b &&& d) + (a &&& c) from by omega]
  rw [Nat.testBit_and, Nat.testBit_two_pow_mul_add _ ha', Nat.testBit_two_pow_mul_add _ hc', Nat.testBit_two_pow_mul_add _ hac]
  by_cases h : i < 8 <;> simp [h, Nat.testBit_and]

def g1 (y : Nat) : Nat := (y / 2 &&& 85) + (y &&& 85)
def g2 (y : Nat) : Nat := (y / 4 &&& 51) + (y &&& 51)
def g3 (y : Nat) : Nat := (y / 16 + y) &&& 15
theorem t1 : ∀ y : Fin 256, ∀ c : Fin 2, (y.1 / 2 + 128 * c.1) &&& 85 = y.1 / 2 &&& 85 := by decide +kernel
theorem t2 : ∀ y : Fin 256, ∀ c : Fin 4, (y.1 / 4 + 64 * c.1) &&& 51 = y.1 / 4 &&& 51 := by decide +kernel
theorem b1 : ∀ y : Fin 256, g1 y.1 < 256 := by decide +kernel
theorem b2 : ∀ y : Fin 256, g2 (g1 y.1) % 16 ≤ 4 ∧ g2 (g1 y.1) / 16 ≤ 4 ∧ g2 (g1 y.1) < 256 := by decide +kernel
theorem b3 : ∀ y : Fin 256, g3 (g2 (g1 y.1)) = cnt 8 y.1 ∧ cnt 8 y.1 ≤ 8 := by decide +kernel

def F1 (n s : Nat) : Nat := (s / 2 &&& M 85 n) + (s &&& M 85 n)
def F2 (n s : Nat) : Nat := (s / 4 &&& M 51 n) + (s &&& M 51 n)
def F3 (n s : Nat) : Nat := (s / 16 + s) &&& M 15 n

theorem F1_step (n y b : Nat) (hy : y < 256) : F1 (n + 1) (y + 256 * b) = g1 y + 256 * F1 n b := by
  unfold F1 g1
  have e : (y + 256 * b) / 2 = (y / 2 + 128 * (b % 2)) + 256 * (b / 2) := by omega
  have h := t1 ⟨y, hy⟩ ⟨b % 2, by omega⟩
  simp only at h
  rw [e, M, and_split _ _ _ _ (by omega) (by omega), and_split _ _ _ _ hy (by omega), h]
  omega
theorem F2_step (n y b : Nat) (hy : y < 256) : F2 (n + 1) (y + 256 * b) = g2 y + 256 * F2 n b := by
  unfold F2 g2
  have e : (y + 256 * b) / 4 = (y / 4 + 64 * (b % 4)) + 256 * (b / 4) := by omega
  have h := t2 ⟨y, hy⟩ ⟨b % 4, by omega⟩
  simp only at h
  rw [e, M, and_split _ _ _ _ (by omega) (by omega), and_split _ _ _ _ hy (by omega), h]
  omega
theorem and15 (x : Nat) : x &&& 15 = x % 16 := Nat.and_two_pow_sub_one_eq_mod x 4
theorem F3_step (n y b : Nat) (h1 : y % 16 ≤ 4) (h2 : y / 16 ≤ 4) (h3 : b % 16 ≤ 4) : F3 (n + 1) (y + 256 * b) = g3 y + 256 * F3 n b := by
  unfold F3 g3
  have e : (y + 256 * b) / 16 + (y + 256 * b) = (y / 16 + y + 16 * (b % 16)) + 256 * (b / 16 + b) := by omega
  have h : (y / 16 + y + 16 * (b % 16)) &&& 15 = (y / 16 + y) &&& 15 := by rw [and15, and15]; omega
  rw [e, M, and_split _ _ _ _ (by omega) (by omega), h]

theorem step' (n s : Nat) : F3 (n + 1) (F2 (n + 1) (F1 (n + 1) s)) = cnt 8 (s % 256) + 256 * F3 n (F2 n (F1 n (s / 256))) := by
  have h : ∀ m t : Nat, F2 m (F1 m t) % 16 ≤ 4 := by
    intro m t
    cases m with
    | zero => simp [F2, F1, M]
    | succ m =>
      have h1 : t = t % 256 + 256 * (t / 256) := by omega
      have hb := b2 ⟨t % 256, by omega⟩
      have hb1 := b1 ⟨t % 256, by omega⟩
      simp only at hb hb1
      rw [h1, F1_step _ _ _ (by omega), F2_step _ _ _ hb1]
      omega
  have hy : s % 256 < 256 := by omega
  have hb1 := b1 ⟨s % 256, hy⟩
  have hb2 := b2 ⟨s % 256, hy⟩
  have hb3 := b3 ⟨s % 256, hy⟩
  simp only at hb1 hb2 hb3
  have h1 : s = s % 256 + 256 * (s / 256) := by omega
  conv => lhs; rw [h1]
  rw [F1_step _ _ _ hy, F2_step _ _ _ hb1, F3_step _ _ _ hb2.1 hb2.2.1 (h _ _), hb3.1]

theorem cnt8_le (s : Nat) : cnt 8 (s % 256) ≤ 8 := (b3 ⟨s % 256, by omega⟩).2

theorem M85 : M 85 8 = 6148914691236517205 := by decide +kernel
theorem M51 : M 51 8 = 3689348814741910323 := by decide +kernel
theorem M15 : M 15 8 = 1085102592571150095 := by decide +kernel

theorem fin_len (x y : Nat) (hx : x < 4294967296) (hy : y < 268435456) : (x + 4294967296 * y) / 4294967296 = y ∧ x + 4294967296 * y < 18446744073709551616 ∧ x + 4294967296 * y + y < 9223372036854775808 ∧ (x + 4294967296 * y + y) % 128 = (x + y) % 128 := by
  refine ⟨?_, ?_, ?_, ?_⟩ <;> omega
theorem fin_mod (d0 d4 u v : Nat) (h : d0 + d4 ≤ 64) : (d0 + 256 * u + (d4 + 256 * v)) % 128 = d0 + d4 := by omega
theorem two_step (c0 c1 r : Nat) (h0 : c0 ≤ 16) (h1 : c1 ≤ 16) : (c0 + 256 * (c1 + 256 * r)) / 65536 = r := by omega
theorem one_step (c0 r : Nat) (h0 : c0 ≤ 8) : (c0 + 256 * r) / 256 = r := by omega

/-- the last three steps over eight small bytes -/
theorem tail (c0 c1 c2 c3 c4 c5 c6 c7 a3 : Nat) (l0 : c0 ≤ 8) (l1 : c1 ≤ 8) (l2 : c2 ≤ 8) (l3 : c3 ≤ 8) (l4 : c4 ≤ 8) (l5 : c5 ≤ 8) (l6 : c6 ≤ 8) (l7 : c7 ≤ 8)
    (e : a3 = c0 + 256 * (c1 + 256 * (c2 + 256 * (c3 + 256 * (c4 + 256 * (c5 + 256 * (c6 + 256 * c7))))))) :
    ∃ a4 a5 a6, a4 = a3 + a3 / 256 ∧ a5 = a4 + a4 / 65536 ∧ a6 = a5 + a5 / 4294967296 ∧ a3 < 18446744073709551616 ∧ a4 < 18446744073709551616 ∧ a5 < 18446744073709551616 ∧ a6 < 9223372036854775808 ∧ a6 % 128 = c0 + (c1 + (c2 + (c3 + (c4 + (c5 + (c6 + c7)))))) := by
  have q3 : a3 / 256 = c1 + 256 * (c2 + 256 * (c3 + 256 * (c4 + 256 * (c5 + 256 * (c6 + 256 * c7))))) := by rw [e]; exact one_step _ _ l0
  have p4 : a3 + a3 / 256 = (c0 + c1) + 256 * ((c1 + c2) + 256 * ((c2 + c3) + 256 * ((c3 + c4) + 256 * ((c4 + c5) + 256 * ((c5 + c6) + 256 * ((c6 + c7) + 256 * c7)))))) := by rw [q3, e]; clear q3 e; omega
  have h3 : a3 < 18446744073709551616 := by rw [e]; clear e q3 p4; omega
  have h4 : a3 + a3 / 256 < 18446744073709551616 := by rw [p4]; clear e q3 p4 h3; omega
  clear e q3
  have q4 : (a3 + a3 / 256) / 65536 = (c2 + c3) + 256 * ((c3 + c4) + 256 * ((c4 + c5) + 256 * ((c5 + c6) + 256 * ((c6 + c7) + 256 * c7)))) := by rw [p4]; exact two_step _ _ _ (by omega) (by omega)
  have p5 : (a3 + a3 / 256) + (a3 + a3 / 256) / 65536 = (c0 + c1 + c2 + c3 + 256 * (c1 + c2 + c3 + c4 + 256 * (c2 + c3 + c4 + c5 + 256 * (c3 + c4 + c5 + c6)))) + 4294967296 * (c4 + c5 + c6 + c7 + 256 * (c5 + c6 + c7 + 256 * (c6 + c7 + 256 * c7))) := by rw [q4, p4]; clear q4 p4 h3 h4; omega
  obtain ⟨f1, f2, f3, f4⟩ := fin_len (c0 + c1 + c2 + c3 + 256 * (c1 + c2 + c3 + c4 + 256 * (c2 + c3 + c4 + c5 + 256 * (c3 + c4 + c5 + c6)))) (c4 + c5 + c6 + c7 + 256 * (c5 + c6 + c7 + 256 * (c6 + c7 + 256 * c7))) (by clear p4 p5 q4 h3 h4; omega) (by clear p4 p5 q4 h3 h4; omega)
  rw [fin_mod _ _ _ _ (by clear p4 p5 q4 h3 h4 f1 f2 f3 f4; omega)] at f4
  rw [← p5] at f1 f2
  refine ⟨_, _, _, rfl, rfl, rfl, h3, h4, f2, ?_, ?_⟩
  · rw [f1, p5]; exact f3
  · rw [f1, p5, f4]; clear p4 p5 q4 h3 h4 f1 f2 f3 f4; omega

/-- what the six steps come to: every step fits a word; the last seven bits are the count -/
theorem swar (s : Nat) : ∃ a1 a2 a3 a4 a5 a6 : Nat,
    a1 = (s / 2 &&& 6148914691236517205) + (s &&& 6148914691236517205) ∧ a2 = (a1 / 4 &&& 3689348814741910323) + (a1 &&& 3689348814741910323) ∧
    a3 = (a2 / 16 + a2) &&& 1085102592571150095 ∧ a4 = a3 + a3 / 256 ∧ a5 = a4 + a4 / 65536 ∧ a6 = a5 + a5 / 4294967296 ∧
    a1 < 18446744073709551616 ∧ a2 / 16 + a2 < 18446744073709551616 ∧ a3 < 18446744073709551616 ∧ a4 < 18446744073709551616 ∧ a5 < 18446744073709551616 ∧ a6 < 9223372036854775808 ∧ a6 % 128 = (mem s).length := by
  have k1 : F1 8 s ≤ 2 * M 85 8 := by
    unfold F1; have h1 : s / 2 &&& M 85 8 ≤ M 85 8 := Nat.and_le_right; have h2 : s &&& M 85 8 ≤ M 85 8 := Nat.and_le_right; omega
  have k2 : F2 8 (F1 8 s) ≤ 2 * M 51 8 := by
    generalize F1 8 s = t; unfold F2; have h1 : t / 4 &&& M 51 8 ≤ M 51 8 := Nat.and_le_right; have h2 : t &&& M 51 8 ≤ M 51 8 := Nat.and_le_right; omega
  rw [M85] at k1
  rw [M51] at k2
  have e3 : F3 8 (F2 8 (F1 8 s)) = cnt 8 (s % 256) + 256 * (cnt 8 (s / 256 % 256) + 256 * (cnt 8 (s / 65536 % 256) + 256 * (cnt 8 (s / 16777216 % 256) + 256 * (cnt 8 (s / 4294967296 % 256) + 256 * (cnt 8 (s / 1099511627776 % 256) + 256 * (cnt 8 (s / 281474976710656 % 256) + 256 * (cnt 8 (s / 72057594037927936 % 256)))))))) := by
    have z : ∀ t, F3 0 (F2 0 (F1 0 t)) = 0 := by intro t; simp [F3, F2, F1, M]
    rw [step', step', step', step', step', step', step', step', z]
    simp only [Nat.div_div_eq_div_mul, Nat.reduceMul, Nat.mul_zero, Nat.add_zero]
  have e4 : (mem s).length = cnt 8 (s % 256) + (cnt 8 (s / 256 % 256) + (cnt 8 (s / 65536 % 256) + (cnt 8 (s / 16777216 % 256) + (cnt 8 (s / 4294967296 % 256) + (cnt 8 (s / 1099511627776 % 256) + (cnt 8 (s / 281474976710656 % 256) + (cnt 8 (s / 72057594037927936 % 256)))))))) := by
    rw [mem_cnt, show (64 : Nat) = 8 + (8 + (8 + (8 + (8 + (8 + (8 + (8 + 0))))))) from rfl, cnt_byte, cnt_byte, cnt_byte, cnt_byte, cnt_byte, cnt_byte, cnt_byte, cnt_byte]
    simp only [Nat.div_div_eq_div_mul, Nat.reduceMul]
    have z : ∀ t, cnt 0 t = 0 := fun _ => rfl
    rw [z, Nat.add_zero]
  obtain ⟨a4, a5, a6, x4, x5, x6, h3, h4, h5, h6, h7⟩ := tail _ _ _ _ _ _ _ _ _ (cnt8_le s) (cnt8_le (s / 256)) (cnt8_le (s / 65536)) (cnt8_le (s / 16777216)) (cnt8_le (s / 4294967296)) (cnt8_le (s / 1099511627776)) (cnt8_le (s / 281474976710656)) (cnt8_le (s / 72057594037927936)) e3
  rw [← e4] at h7
  clear e3 e4
  exact ⟨F1 8 s, F2 8 (F1 8 s), F3 8 (F2 8 (F1 8 s)), a4, a5, a6, by unfold F1; rw [M85], by rw [F2, M51], by rw [F3, M15], x4, x5, x6, by omega, by omega, h3, h4, h5, h6, h7⟩
end Go.Proofs.Ws
/- The subsets of a set by their numbers; the next set of the same size: the arithmetic (no program in sight). -/
namespace Go.Proofs.Ws

end Go.Proofs.Ws
/- The next set of the same size, by arithmetic, and by the lowest world that can move up (no program in sight). -/
namespace Go.Proofs.Ws

/-- outside of the first n worlds lies nothing exactly if the number is below 2^n -/
theorem outside (s n : Nat) (hn : n ≤ 64) (hs : s < 18446744073709551616) : s &&& (18446744073709551615 - (2 ^ n - 1)) = 0 ↔ s < 2 ^ n := by
  have hmask : ∀ i, (18446744073709551615 - (2 ^ n - 1)).testBit i = (decide (i < 64) && !decide (i < n)) := by
    intro i
    have x : 2 ^ n ≤ 2 ^ 64 := Nat.pow_le_pow_right (by decide) hn
    have y := Nat.two_pow_pos n
    have z := Nat.testBit_two_pow_sub_succ (x := 2 ^ n - 1) (n := 64) (by omega) i
    rw [show 2 ^ 64 - (2 ^ n - 1 + 1) = 18446744073709551615 - (2 ^ n - 1) from by omega, Nat.testBit_two_pow_sub_one] at z
    exact z
  constructor
  · intro h
    apply Nat.lt_of_not_le
    intro hle
    obtain ⟨i, hi, hbit⟩ := Nat.exists_ge_and_testBit_of_ge_two_pow hle
    have h64 : i < 64 := by
      apply Nat.lt_of_not_le
      intro h6
      have := Nat.testBit_lt_two_pow (x := s) (i := i) (Nat.lt_of_lt_of_le hs (Nat.pow_le_pow_right (by decide) h6 : 2 ^ 64 ≤ 2 ^ i))
      rw [this] at hbit
      cases hbit
    have hz : (s &&& (18446744073709551615 - (2 ^ n - 1))).testBit i = false := by rw [h]; simp
    rw [Nat.testBit_and, hmask, hbit] at hz
    have : ¬ (i < n) := by omega
    simp [h64, this] at hz
  · intro h
    apply Nat.eq_of_testBit_eq
    intro i
    rw [Nat.testBit_and, hmask, Nat.zero_testBit]
    by_cases hi : i < n
    · simp [hi]
    · rw [Nat.testBit_lt_two_pow (Nat.lt_of_lt_of_le h (Nat.pow_le_pow_right (by decide) (by omega)))]
      simp
end Go.Proofs.Ws
/- The subsets ascend, lie in the set, and end with it (no program in sight). -/
namespace Go.Proofs.Ws

/-- a list of worlds that ascends from b on -/
def Asc : Nat → List Nat → Prop
  | _, [] => True
  | b, w :: l => b ≤ w ∧ Asc (w + 1) l

theorem Asc.mono {b c : Nat} : ∀ {l : List Nat}, Asc c l → b ≤ c → Asc b l
  | [], _, _ => trivial
  | _ :: _, h, hb => ⟨Nat.le_trans hb h.1, h.2⟩

theorem or_add (i x y : Nat) (hx : 2 ^ i ∣ x) (hy : y < 2 ^ i) : y ||| x = y + x := by
  obtain ⟨a, rfl⟩ := hx
  rw [Nat.or_comm, Nat.add_comm]
  exact (Nat.two_pow_add_eq_or_of_lt hy a).symm

theorem mem_iff (s : Nat) (x : Nat) : x ∈ mem s ↔ x < 64 ∧ s.testBit x = true := by
  unfold mem
  rw [List.mem_filter, List.mem_range]

end Go.Proofs.Ws
/- Words and memory: the set of one world and of all, what a slice reads as, the table of trailing zeros, TrailingZeros64. -/
namespace Go.Proofs.YtfbgabcdeecpoaaDoor
open Go.RowKit Go.Proofs.Ws
theorem ret_bool {a b : Bool} (h : a = b) : Ending.returned (.bool a) = .returned (.bool b) := by rw [h]
theorem ret_u64 {a b : Int} (h : a = b) : Ending.returned (.int .u64 a) = .returned (.int .u64 b) := by rw [h]
theorem ret_i64 {a b : Int} (h : a = b) : Ending.returned (.int .i64 a) = .returned (.int .i64 b) := by rw [h]
/-- the set of one world -/
def p2 (k : Nat) : Nat := 2 ^ k
theorem wrap_pow (n : Nat) (h : n < 64) : IntKind.u64.wrap ((2 : Int) ^ n) = ((p2 n : Nat) : Int) := by
  have h2 : 2 ^ n < 2 ^ 64 := Nat.pow_lt_pow_right (by decide) h
  rw [IntKind.wrap_u64, show ((2 : Int) ^ n) = ((p2 n : Nat) : Int) from by simp [p2]]
  have h3 : p2 n < 18446744073709551616 := h2
  omega
/-- world n is in the set s -/
def hasB (s : Nat) (n : Int) : Bool := decide (0 ≤ n ∧ n < 64) && s.testBit n.toNat
theorem and_pow (s k : Nat) (hs : s < 18446744073709551616) (hk : k < 64) : (bits .and .u64 (s : Int) (p2 k : Int) != 0) = s.testBit k := by
  have h2 : 2 ^ k < 2 ^ 64 := Nat.pow_lt_pow_right (by decide) hk
  have hp := Nat.two_pow_pos k
  have e : s.testBit k = decide (s / 2 ^ k % 2 = 1) := Nat.testBit_eq_decide_div_mod_eq
  rw [u64_and_nat s (p2 k) hs h2, show s &&& p2 k = s / 2 ^ k % 2 * 2 ^ k from nat_bit k s, e]
  have h3 : s / 2 ^ k % 2 = 0 ∨ s / 2 ^ k % 2 = 1 := by omega
  have e0 : ((2 ^ k : Nat) : Int) ≠ 0 := by omega
  rcases h3 with h3 | h3 <;> rw [h3]
  · simp
  · simp only [Nat.one_mul, decide_true, bne_iff_ne]; exact e0
/-- the worlds 0 to n - 1, for n from 0 to 64; else none -/
def allV (n : Int) : Nat := if 0 ≤ n ∧ n ≤ 64 then 2 ^ n.toNat - 1 else 0
theorem bits_and_nn (a b : Nat) (ha : a < 18446744073709551616) (hb : b < 18446744073709551616) : bits .and .u64 (a : Int) (b : Int) = ((a &&& b : Nat) : Int) := u64_and_nat a b ha hb
theorem wrap_allV (k : Nat) (h : k ≤ 64) : IntKind.u64.wrap (IntKind.u64.wrap ((2 : Int) ^ k) - 1) = (allV k : Int) := by
  have e0 : allV k = 2 ^ k - 1 := by unfold allV; rw [if_pos (by omega)]; rfl
  rw [e0]
  by_cases h1 : k = 64
  · subst h1; decide
  · have h2 := wrap_pow k (by omega)
    have h3 : p2 k < 18446744073709551616 := Nat.pow_lt_pow_right (by decide) (show k < 64 by omega)
    have h4 : 0 < p2 k := Nat.two_pow_pos k
    rw [h2, show 2 ^ k = p2 k from rfl, IntKind.wrap_u64]
    omega
theorem allV_lt (n : Int) : allV n < 18446744073709551616 := by
  unfold allV
  split
  · rename_i h
    have : 2 ^ n.toNat ≤ 2 ^ 64 := Nat.pow_le_pow_right (by decide) (by omega)
    omega
  · omega
theorem allV_succ (k : Nat) (h : k < 64) : bits .or .u64 (allV k : Int) (p2 k : Int) = (allV ((k : Int) + 1) : Int) := by
  have e0 : allV k = 2 ^ k - 1 := by unfold allV; rw [if_pos (by omega)]; rfl
  have e1 : allV ((k : Int) + 1) = 2 ^ (k + 1) - 1 := by unfold allV; rw [if_pos (by omega)]; rfl
  have h3 : p2 k < 18446744073709551616 := Nat.pow_lt_pow_right (by decide) h
  rw [u64_or_nat _ _ (allV_lt _) h3, e0, e1]
  congr 1
  have hp := Nat.two_pow_pos k
  rw [Nat.or_comm, nat_join k (p2 k) (2 ^ k - 1) (by unfold p2; exact Nat.mod_self _) (by omega), Nat.pow_succ]
  unfold p2
  omega
theorem block_of_add (a : Addr) (n : Nat) : (a.add n).block = a.block := by unfold Addr.add; split <;> rfl
def Reads (w : World) (B size : Nat) (A : Option Addr) (n : Nat) (xs : List Value) : Prop :=
  xs.length = n * size ∧ (0 < n → ∃ ad, A = some ad ∧ ad.block < B ∧ ∀ j u, xs[j]? = some u → w.cell? (ad.add j) = some u)
section
variable {w w' : World} {B B' size n : Nat} {A : Option Addr} {xs : List Value}
theorem Reads.none_ : Reads w B size A 0 [] := ⟨by simp, fun h => absurd h (by omega)⟩
theorem Reads.at_ {k : Nat} (h : Reads w B 1 A n xs) (hk : k < n) : ∃ ad u, A = some ad ∧ ad.block < B ∧ xs[k]? = some u ∧ w.cell? (ad.add k) = some u := by
  obtain ⟨ad, e, hb, hc⟩ := h.2 (by omega)
  have hl : k < xs.length := by have := h.1; omega
  exact ⟨ad, xs[k], e, hb, List.getElem?_eq_getElem hl, hc k _ (List.getElem?_eq_getElem hl)⟩
theorem Reads.keep (h : Reads w B size A n xs) (hk : ∀ p : Addr, p.block < B → w'.cell? p = w.cell? p) : Reads w' B size A n xs :=
  ⟨h.1, fun hn => by
    obtain ⟨ad, e, hb, hc⟩ := h.2 hn
    exact ⟨ad, e, hb, fun j u hu => (hk _ (by rw [block_of_add]; exact hb)).trans (hc j u hu)⟩⟩
theorem Reads.more (h : Reads w B size A n xs) (hB : B ≤ B') : Reads w B' size A n xs :=
  ⟨h.1, fun hn => by
    obtain ⟨ad, e, hb, hc⟩ := h.2 hn
    exact ⟨ad, e, by omega, hc⟩⟩
theorem Reads.below (h : Reads w B size A n xs) (hb : Below B w w') : Reads w' B size A n xs := h.keep fun _ hp => hb.cell hp
theorem Reads.drew (h : Reads w B size A n xs) : Reads w.drew B size A n xs := h
theorem Reads.drewN (h : Reads w B size A n xs) (k : Nat) : Reads (w.drewN k) B size A n xs := h
theorem Reads.alloc (h : Reads w B size A n xs) (hB : B ≤ w.heap.size) (o : Obj) : Reads (w.alloc o) B size A n xs := h.keep fun p hp => World.cell?_alloc_lt w o p (by omega)
theorem Reads.setCell (h : Reads w B size A n xs) {p : Addr} (hB : B ≤ p.block) (u : Value) : Reads (w.setCell p u) B size A n xs :=
  h.keep fun q hq => World.cell?_setCell_other w p q u (fun e => by subst e; omega)
theorem Reads.grown (h : Reads w B size A n xs) {row : Option Nat} (hg : w.grownBy w' row) (hB : B ≤ w.heap.size) (hr : ∀ g, row = some g → B ≤ g) : Reads w' B size A n xs :=
  h.keep fun p hp => World.cell?_of_block (hg.block p.block (by omega) (fun e => by have := hr _ e.symm; omega))
theorem Reads.of_own {base : Nat} {e : TypeId} {c : Nat} (h : w.ownsRow base e size (.slice A n c) n xs) : Reads w w.heap.size size A n xs := by
  refine ⟨h.1, fun hn => ?_⟩
  obtain ⟨g, cap, hv, _, hlt⟩ := h.form hn
  have hA : A = some ⟨g, 0, none⟩ := by injection hv
  subst hA
  exact ⟨_, rfl, hlt, h.cells (g := g) rfl⟩
end
/-- the table of trailing zeros lies in its variable (block 0) -/
def iv (l : List Nat) : List Value := l.map (fun k : Nat => Value.int .i64 (k : Int))
theorem iv_length (l : List Nat) : (iv l).length = l.length := by simp [iv]
theorem iv_append (l m : List Nat) : iv (l ++ m) = iv l ++ iv m := by simp [iv]
theorem own_reads {w : World} {base : Nat} {e : TypeId} {v : Value} {n : Nat} {xs : List Value} (h : w.ownsRow base e 1 v n xs) :
    ∃ A c, v = .slice A n c ∧ Reads w w.heap.size 1 A n xs := by
  have h2 := h.2
  rcases h2 with ⟨rfl, rfl⟩ | ⟨g, cap, cur, rfl, _⟩
  · exact ⟨none, 0, rfl, Reads.of_own h⟩
  · exact ⟨_, cap, rfl, Reads.of_own h⟩
theorem andpred (r : Nat) (h0 : r ≠ 0) (hr : r < 18446744073709551616) : bits .and .u64 (r : Int) (IntKind.u64.wrap ((r : Int) - 1)) = ((r &&& (r - 1) : Nat) : Int) := by
  rw [show IntKind.u64.wrap ((r : Int) - 1) = ((r - 1 : Nat) : Int) from by rw [IntKind.wrap_u64]; omega, u64_and_nat r (r - 1) hr (by omega)]
theorem or_pow (a k : Nat) (ha : a < 18446744073709551616) (hk : k < 64) : bits .or .u64 (a : Int) (p2 k : Int) = ((a ||| p2 k : Nat) : Int) ∧ a ||| p2 k < 18446744073709551616 := by
  have h3 : p2 k < 18446744073709551616 := Nat.pow_lt_pow_right (by decide) hk
  exact ⟨u64_or_nat a (p2 k) ha h3, Nat.or_lt_two_pow (n := 64) ha h3⟩
theorem outside_in (s : Nat) (n : Int) (hs : s < 18446744073709551616) (h : 0 ≤ n ∧ n ≤ 64) : (bits .andNot .u64 (s : Int) (allV n : Int) != 0) = !decide (s < 2 ^ n.toNat) := by
  rw [u64_andNot_nat s (allV n) hs (allV_lt n)]
  have e : allV n = 2 ^ n.toNat - 1 := by unfold allV; rw [if_pos h]
  rw [e]
  have := outside s n.toNat (by omega) hs
  by_cases h2 : s < 2 ^ n.toNat
  · rw [this.2 h2, decide_eq_true h2]; rfl
  · have h3 := fun x => h2 (this.1 x)
    rw [decide_eq_false h2, bne_iff_ne.2 (by omega)]; rfl
theorem p2_bit (w x : Nat) : (p2 w).testBit x = decide (w = x) := by unfold p2; exact Nat.testBit_two_pow
theorem below_drewN {B : Nat} {a w : World} (h : Below B a w) (n : Nat) : Below B a (w.drewN n) := h.trans ⟨rfl, rfl, rfl, Nat.le_refl _, fun _ _ => rfl⟩
end Go.Proofs.YtfbgabcdeecpoaaDoor
/- Lists of words in cells, and memory of the call's own (no function of the program is named). -/
namespace Go.Proofs.YtfbgabcdeecpoaaDoor
open Go.RowKit Go.Proofs.Ws
/-- a list of words in cells -/
def us (l : List Nat) : List Value := l.map (fun k : Nat => Value.int .u64 (k : Int))
theorem us_length (l : List Nat) : (us l).length = l.length := by simp [us]
/-- each is a word -/
def Words (l : List Nat) : Prop := ∀ x ∈ l, x < 18446744073709551616
theorem Reads.word_at {w : World} {B n : Nat} {A : Option Addr} {l : List Nat} (h : Reads w B 1 A n (us l)) {k : Nat} (hk : k < n) :
    ∃ ad x, A = some ad ∧ ad.block < B ∧ k < l.length ∧ l.getD k 0 = x ∧ x ∈ l ∧ l.drop k = x :: l.drop (k + 1) ∧ w.cell? (ad.add k) = some (.int .u64 (x : Int)) := by
  obtain ⟨ad, u, hA, hb, hu, hc⟩ := h.at_ hk
  unfold us at hu
  rw [List.getElem?_map] at hu
  have hl : k < l.length := by have := h.1; rw [us_length] at this; omega
  rw [List.getElem?_eq_getElem hl] at hu
  simp at hu
  subst hu
  exact ⟨ad, l[k], hA, hb, hl, by rw [List.getD_eq_getElem?_getD, List.getElem?_eq_getElem hl]; rfl, List.getElem_mem hl, List.drop_eq_getElem_cons hl, hc⟩
/-- block g holds just these words -/
def HoldsU (w : World) (g : Nat) (l : List Nat) : Prop := w.heap[g]? = some (.cells (us l).toArray 28 (0, 0))
theorem Tryd.infoU : (Tryd.prog.info? 28).map (fun i => (i.zero, i.size, i.bytes)) = some (some (.int .u64 0), 1, 8) := by kernel_rfl
theorem made_us (n : Nat) : madeCells (Value.int IntKind.u64 0).cells n = (us (List.replicate n 0)).toArray := by
  apply Array.ext
  · simp [madeCells, us]
  · intro i h1 h2
    simp [madeCells, us, Value.cells, Nat.mod_one]
theorem makeU (w : World) (n : Nat) (hn : n ≤ 1000000) : (Instr.makeSlice 31 (.int .i64 (n : Int)) (.int .i64 (n : Int))).run Tryd.prog w = .ok (.slice (some ⟨w.heap.size, 0, none⟩) n n) (w.alloc (.cells (us (List.replicate n 0)).toArray 28)) := by
  obtain ⟨i0, hi, hz0, hz1, hz2⟩ := info_parts Tryd.infoU
  have h := run_make (P := Tryd.prog) w 31 28 i0 (.int .u64 0) Tryd.underlying31 hi hz0 .i64 .i64 n n (by omega) (Int.le_refl _) (by rw [hz2]; omega) (by omega)
  rw [h, hz1]
  simp only [Int.toNat_natCast, Nat.mul_one]
  rw [made_us]
theorem HoldsU.cell {w : World} {g : Nat} {l : List Nat} (h : HoldsU w g l) (k : Nat) (hk : k < l.length) : w.cell? ⟨g, k, none⟩ = some (.int .u64 ((l.getD k 0 : Nat) : Int)) := by
  rw [Lib.cell_of_heap h, List.getElem?_toArray]
  unfold us
  rw [List.getElem?_map, List.getElem?_eq_getElem hk, List.getD_eq_getElem?_getD, List.getElem?_eq_getElem hk]
  rfl
theorem HoldsU.free {w : World} {g : Nat} {l : List Nat} (h : HoldsU w g l) (k : Nat) : w.frozen? ⟨g, k, none⟩ = false := Lib.frozen_of_heap h k
theorem HoldsU.put {w : World} {g : Nat} {l : List Nat} (h : HoldsU w g l) (k x : Nat) : HoldsU (w.setCell ⟨g, k, none⟩ (.int .u64 (x : Int))) g (l.set k x) := by
  unfold HoldsU at h ⊢
  have e : (us (l.set k x)).toArray = (us l).toArray.setIfInBounds k (.int .u64 (x : Int)) := by
    unfold us
    rw [List.map_set]
    simp
  rw [e]
  simp [World.setCell, Array.getElem?_modify, h]
theorem HoldsU.far {w : World} {g g' : Nat} {l : List Nat} (h : HoldsU w g l) (hne : g ≠ g') (k : Nat) (u : Value) : HoldsU (w.setCell ⟨g', k, none⟩ u) g l :=
  (Below.heap_setCell w ⟨g', k, none⟩ u g hne).trans h
theorem HoldsU.made (w : World) (l : List Nat) : HoldsU (w.alloc (.cells (us l).toArray 28)) w.heap.size l := heap_alloc_new w _
theorem HoldsU.lt {w : World} {g : Nat} {l : List Nat} (h : HoldsU w g l) : g < w.heap.size := (Array.getElem?_eq_some_iff.1 h).1
theorem HoldsU.alloc {w : World} {g : Nat} {l : List Nat} (h : HoldsU w g l) (o : Obj) : HoldsU (w.alloc o) g l := (Below.heap_alloc w o g h.lt).trans h
theorem addr0 (g j : Nat) : (⟨g, 0, none⟩ : Addr).add j = ⟨g, j, none⟩ := by
  unfold Addr.add
  split
  · subst_vars; rfl
  · simp
theorem HoldsU.reads {w : World} {g : Nat} {l : List Nat} (h : HoldsU w g l) : Reads w w.heap.size 1 (some ⟨g, 0, none⟩) l.length (us l) := by
  refine ⟨by rw [us_length]; omega, fun _ => ⟨_, rfl, h.lt, fun j u hu => ?_⟩⟩
  rw [addr0]
  unfold us at hu
  rw [List.getElem?_map] at hu
  obtain ⟨k, hk, rfl⟩ := Option.map_eq_some_iff.1 hu
  have hj : j < l.length := by
    by_cases h' : j < l.length
    · exact h'
    · rw [List.getElem?_eq_none (by omega)] at hk; cases hk
  rw [h.cell j hj, List.getD_eq_getElem?_getD, hk]; rfl
theorem HoldsU.below {w w' : World} {B g : Nat} {l : List Nat} (h : HoldsU w g l) (hb : Below B w w') (hg : g < B) : HoldsU w' g l := (hb.block g hg).trans h
theorem Reads.word_k {w : World} {B n : Nat} {A : Option Addr} {l : List Nat} (h : Reads w B 1 A n (us l)) {k : Nat} (hk : k < n) :
    ∃ ad, A = some ad ∧ ad.block < B ∧ w.cell? (ad.add k) = some (.int .u64 ((l.getD k 0 : Nat) : Int)) := by
  obtain ⟨ad, x, hA, hb, _, hx, _, _, hc⟩ := h.word_at hk
  exact ⟨ad, hA, hb, by rw [hx]; exact hc⟩
/-- whatever lay below B, block g apart, lies as it lay -/
structure BelowBut (B g : Nat) (w w' : World) : Prop where
  os : w'.os = w.os
  tape : w'.tape = w.tape
  output : w'.output = w.output
  size : w.heap.size ≤ w'.heap.size
  block : ∀ k, k < B → k ≠ g → w'.heap[k]? = w.heap[k]?
theorem BelowBut.refl (B g : Nat) (w : World) : BelowBut B g w w := ⟨rfl, rfl, rfl, Nat.le_refl _, fun _ _ _ => rfl⟩
theorem BelowBut.of {B : Nat} {w w' : World} (h : Below B w w') (g : Nat) : BelowBut B g w w' := ⟨h.os, h.tape, h.output, h.size, fun k hk _ => h.block k hk⟩
theorem BelowBut.trans {B g : Nat} {a b c : World} (h : BelowBut B g a b) (k : BelowBut B g b c) : BelowBut B g a c :=
  ⟨k.os.trans h.os, k.tape.trans h.tape, k.output.trans h.output, Nat.le_trans h.size k.size, fun j hj hg => (k.block j hj hg).trans (h.block j hj hg)⟩
theorem BelowBut.setCell {B g : Nat} {a w : World} (h : BelowBut B g a w) (k : Nat) (u : Value) : BelowBut B g a (w.setCell ⟨g, k, none⟩ u) := by
  have e : BelowBut B g w (w.setCell ⟨g, k, none⟩ u) := by
    have b := (Below.refl 0 w).setCell (p := ⟨g, k, none⟩) (Nat.zero_le _) u
    exact ⟨b.os, b.tape, b.output, b.size, fun j _ hg => Below.heap_setCell w ⟨g, k, none⟩ u j hg⟩
  exact h.trans e
theorem BelowBut.drew {B g : Nat} {a w : World} (h : BelowBut B g a w) : BelowBut B g a w.drew := ⟨h.os, h.tape, h.output, h.size, h.block⟩
theorem BelowBut.mono {B B' g : Nat} {w w' : World} (h : BelowBut B g w w') (hB : B' ≤ B) : BelowBut B' g w w' := ⟨h.os, h.tape, h.output, h.size, fun k hk hg => h.block k (Nat.lt_of_lt_of_le hk hB) hg⟩
/-- what lay below g too lies as it lay -/
theorem BelowBut.below {B g : Nat} {w w' : World} (h : BelowBut B g w w') (hg : B ≤ g) : Below B w w' := ⟨h.os, h.tape, h.output, h.size, fun k hk => h.block k hk (by omega)⟩
/-- block g holds these words, and maybe more behind them -/
def HoldsP (w : World) (g : Nat) (l : List Nat) : Prop := ∃ pad : List Value, w.heap[g]? = some (.cells (us l ++ pad).toArray 28 (0, 0))
theorem HoldsU.pad {w : World} {g : Nat} {l : List Nat} (h : HoldsU w g l) : HoldsP w g l := ⟨[], by rw [List.append_nil]; exact h⟩
theorem HoldsP.cell {w : World} {g : Nat} {l : List Nat} (h : HoldsP w g l) (k : Nat) (hk : k < l.length) : w.cell? ⟨g, k, none⟩ = some (.int .u64 ((l.getD k 0 : Nat) : Int)) := by
  obtain ⟨pad, h⟩ := h
  rw [Lib.cell_of_heap h, List.getElem?_toArray, List.getElem?_append_left (by rw [us_length]; exact hk)]
  unfold us
  rw [List.getElem?_map, List.getElem?_eq_getElem hk, List.getD_eq_getElem?_getD, List.getElem?_eq_getElem hk]
  rfl
theorem HoldsP.free {w : World} {g : Nat} {l : List Nat} (h : HoldsP w g l) (k : Nat) : w.frozen? ⟨g, k, none⟩ = false := by
  obtain ⟨pad, h⟩ := h
  exact Lib.frozen_of_heap h k
theorem HoldsP.put {w : World} {g : Nat} {l : List Nat} (h : HoldsP w g l) (k x : Nat) : HoldsP (w.setCell ⟨g, k, none⟩ (.int .u64 (x : Int))) g (l.set k x) := by
  obtain ⟨pad, h⟩ := h
  by_cases hk : k < l.length
  · refine ⟨pad, ?_⟩
    have e : (us (l.set k x) ++ pad).toArray = (us l ++ pad).toArray.setIfInBounds k (.int .u64 (x : Int)) := by
      unfold us
      rw [List.map_set]
      simp [hk]
    rw [e]
    simp [World.setCell, Array.getElem?_modify, h]
  · refine ⟨pad.set (k - l.length) (.int .u64 (x : Int)), ?_⟩
    have e : (us (l.set k x) ++ pad.set (k - l.length) (.int .u64 (x : Int))).toArray = (us l ++ pad).toArray.setIfInBounds k (.int .u64 (x : Int)) := by
      rw [List.set_eq_of_length_le (by omega)]
      simp [List.set_append, us_length, hk]
    rw [e]
    simp [World.setCell, Array.getElem?_modify, h]
theorem HoldsP.lt {w : World} {g : Nat} {l : List Nat} (h : HoldsP w g l) : g < w.heap.size := by
  obtain ⟨pad, h⟩ := h
  exact (Array.getElem?_eq_some_iff.1 h).1
theorem HoldsP.below {w w' : World} {B g : Nat} {l : List Nat} (h : HoldsP w g l) (hb : Below B w w') (hg : g < B) : HoldsP w' g l := by
  obtain ⟨pad, h⟩ := h
  exact ⟨pad, (hb.block g hg).trans h⟩
theorem HoldsP.reads {w : World} {g : Nat} {l : List Nat} (h : HoldsP w g l) : Reads w w.heap.size 1 (some ⟨g, 0, none⟩) l.length (us l) := by
  refine ⟨by rw [us_length]; omega, fun _ => ⟨_, rfl, h.lt, fun j u hu => ?_⟩⟩
  rw [addr0]
  unfold us at hu
  rw [List.getElem?_map] at hu
  obtain ⟨k, hk, rfl⟩ := Option.map_eq_some_iff.1 hu
  have hj : j < l.length := by
    by_cases h' : j < l.length
    · exact h'
    · rw [List.getElem?_eq_none (by omega)] at hk; cases hk
  rw [h.cell j hj, List.getD_eq_getElem?_getD, hk]; rfl
end Go.Proofs.YtfbgabcdeecpoaaDoor
/- Layer 3: lists of numbers in cells; the check of a partition on both sides. -/
namespace Go.Proofs.YtfbgabcdeecpoaaDoor
open Go.RowKit Go.Proofs.Ws
/-- a list of numbers in cells -/
def ints (l : List Int) : List Value := l.map (fun z => Value.int .i64 z)
theorem ints_length (l : List Int) : (ints l).length = l.length := by simp [ints]
theorem Reads.int_len {w : World} {B n : Nat} {A : Option Addr} {l : List Int} (h : Reads w B 1 A n (ints l)) : l.length = n := by
  have := h.1; rw [ints_length] at this; omega
theorem Reads.int_at {w : World} {B n : Nat} {A : Option Addr} {l : List Int} (h : Reads w B 1 A n (ints l)) {k : Nat} (hk : k < n) :
    ∃ ad, A = some ad ∧ ad.block < B ∧ w.cell? (ad.add k) = some (.int .i64 (l.getD k 0)) := by
  obtain ⟨ad, u, hA, hb, hu, hc⟩ := h.at_ hk
  unfold ints at hu
  rw [List.getElem?_map] at hu
  obtain ⟨z, hz, rfl⟩ := Option.map_eq_some_iff.1 hu
  exact ⟨ad, hA, hb, by rw [List.getD_eq_getElem?_getD, hz]; exact hc⟩
/-- the number at a place is the lowest point of its block -/
def okAt (l : List Int) (i : Nat) : Bool := decide (0 ≤ l.getD i 0) && decide (l.getD i 0 ≤ (i : Int)) && decide (l.getD (l.getD i 0).toNat 0 = l.getD i 0)
/-- the first error of a partition -/
def partErr (l : List Int) : Int := if 64 < l.length then 8 else if (List.range l.length).all (okAt l) then 0 else 3
theorem partErr_ok {l : List Int} (h : l.length ≤ 64) (ho : ∀ i, i < l.length → okAt l i = true) : partErr l = 0 := by
  unfold partErr
  rw [if_neg (by omega), if_pos (List.all_eq_true.2 (fun i hi => ho i (List.mem_range.1 hi)))]
theorem partErr_bad {l : List Int} (h : l.length ≤ 64) {i : Nat} (hi : i < l.length) (ho : okAt l i = false) : partErr l = 3 := by
  unfold partErr
  rw [if_neg (by omega), if_neg (fun hh => by have := List.all_eq_true.1 hh i (List.mem_range.2 hi); rw [ho] at this; cases this)]
set_option maxRecDepth 100000 in
theorem pCheck_any (l : List Int) (A : Option Addr) (n c B : Nat) (w : World) (hR : Reads w B 1 A n (ints l)) (hm : n ≤ maxLen) :
    Calls Tryd.prog 50 #[.slice A n c] w fun e w' => e = .returned (.int .i64 (partErr l)) ∧ w = w' := by
  unfold maxLen at hm
  have hl := hR.int_len
  by_cases h64 : n ≤ 64
  · have HOK := Lib.hid (partErr_ok (l := l) (by omega))
    have HBAD := Lib.hid (fun i (hi : i < n) => partErr_bad (l := l) (by omega) (i := i) (by omega))
    have HL := Lib.hid hl
    clear hl
    go_enter Tryd.func50, Tryd.ntmps50
    go_wp2
    go_loopw [10] (fun i wr => ∃ k : Nat, k ≤ n ∧ i = .int .i64 k ∧ Hid (∀ i, i < k → okAt l i = true) ∧ wr = w) (fun i _ => n - (intOf i).toNat)
    case atStart => exact ⟨0, Nat.zero_le _, rfl, Lib.hid (fun i hi => absurd hi (by omega)), rfl⟩
    case round =>
      obtain ⟨k, hk, rfl, HI, rfl⟩ := hrel
      by_cases hlt : k < n
      · obtain ⟨ad, rfl, hb, hc⟩ := hR.int_at hlt
        obtain ⟨x, hx⟩ : ∃ x, l.getD k 0 = x := ⟨_, rfl⟩
        rw [hx] at hc
        have HX := Lib.hid hx
        clear hx
        by_cases h0 : x < 0
        · have HB := Lib.hid (HBAD.out k hlt (by unfold okAt; rw [HX.out, decide_eq_false (by omega)]; rfl))
          have hd : decide (x < 0) = true := by simp; omega
          go_wp2
          go_ret
          exact ⟨ret_i64 HB.out.symm, rfl⟩
        · obtain ⟨y, rfl⟩ := Int.eq_ofNat_of_zero_le (show 0 ≤ x by omega)
          by_cases h1 : k < y
          · have HB := Lib.hid (HBAD.out k hlt (by unfold okAt; rw [HX.out, decide_eq_false (show ¬ ((y : Int) ≤ (k : Int)) by omega), Bool.and_false, Bool.false_and]))
            have hd : decide ((y : Int) < 0) = false := by simp
            have hd2 : decide ((k : Int) < (y : Int)) = true := by simp; omega
            have hd3 : decide (k < y) = true := by simp; omega
            clear h0
            go_wp2
            go_ret
            exact ⟨ret_i64 HB.out.symm, rfl⟩
          · have hyn : y < n := by omega
            obtain ⟨_, hA, _, hc2⟩ := hR.int_at hyn
            cases hA
            have hd : decide ((y : Int) < 0) = false := by simp
            have hd2 : decide ((k : Int) < (y : Int)) = false := by simp; omega
            have hd3 : decide (k < y) = false := by simp; omega
            by_cases h2 : l.getD y 0 = (y : Int)
            · have HN : Hid (∀ i, i < k + 1 → okAt l i = true) := Lib.hid (fun i hi => by
                by_cases e : i = k
                · subst e
                  unfold okAt
                  rw [HX.out, decide_eq_true (show (0 : Int) ≤ (y : Int) by omega), decide_eq_true (show (y : Int) ≤ (i : Int) by omega), Int.toNat_natCast, decide_eq_true h2]; rfl
                · exact HI.out i (by omega))
              rw [h2] at hc2
              clear h0 h2 HI
              go_wp2
              go_roundw
              case rel => exact ⟨k + 1, by omega, by go_num, HN, by first | rfl | trivial⟩
              case measure => simp [intOf]; omega
            · have HB := Lib.hid (HBAD.out k hlt (by unfold okAt; rw [HX.out, Int.toNat_natCast, decide_eq_false h2, Bool.and_false]))
              have hne : (l.getD y 0 != (y : Int)) = true := by rw [bne_iff_ne]; exact h2
              generalize l.getD y 0 = z at *
              clear h0 h2 HI
              go_wp2
              go_ret
              exact ⟨ret_i64 HB.out.symm, rfl⟩
      · have HB := Lib.hid (HOK.out (fun i hi => HI.out i (by have := HL.out; omega)))
        clear HI
        go_wp2
        go_ret
        exact ⟨ret_i64 HB.out.symm, rfl⟩
  · have HB : Hid (partErr l = 8) := Lib.hid (by unfold partErr; rw [if_pos (by omega)])
    clear hl
    go_enter Tryd.func50, Tryd.ntmps50
    go_wp2
    go_ret
    exact ⟨ret_i64 HB.out.symm, rfl⟩
end Go.Proofs.YtfbgabcdeecpoaaDoor
/- Layer 13: models: their check, facts, parts, names, and what is reached from a set. -/
namespace Go.Proofs.Ws
/-- a model -/
structure Mo where
  n : Int
  val : List Nat
  rel : List (List Nat)
  deriving DecidableEq
/-- all sets lie below n -/
def inW (n : Nat) (l : List Nat) : Bool := l.all fun x => decide (x < 2 ^ n)
/-- the error of a model -/
def chkM (m : Mo) : Int :=
  if m.n < 1 ∨ 64 < m.n then 2
  else if 4 < m.rel.length ∨ 8 < m.val.length then 8
  else if m.rel.all (fun r => decide ((r.length : Int) = m.n)) then
    (if inW m.n.toNat m.val && m.rel.all (inW m.n.toNat) then 0 else 2)
  else 3
/-- a valid model -/
structure OkM (n : Nat) (m : Mo) : Prop where
  num : m.n = n
  pos : 1 ≤ n
  le : n ≤ 64
  agents : m.rel.length ≤ 4
  facts : m.val.length ≤ 8
  len : ∀ r ∈ m.rel, r.length = n
  val : ∀ x ∈ m.val, x < 2 ^ n
  rel : ∀ r ∈ m.rel, ∀ x ∈ r, x < 2 ^ n
theorem OkM.chk {n : Nat} {m : Mo} (h : OkM n m) : chkM m = 0 := by
  have e : m.n.toNat = n := by rw [h.num]; rfl
  unfold chkM
  rw [if_neg (by have := h.num; have := h.pos; have := h.le; omega), if_neg (by have := h.agents; have := h.facts; omega)]
  rw [if_pos (by simp only [List.all_eq_true, decide_eq_true_eq]; intro r hr; rw [h.len r hr, h.num])]
  rw [if_pos (by
    rw [e, Bool.and_eq_true]
    unfold inW
    simp only [List.all_eq_true, decide_eq_true_eq]
    exact ⟨h.val, h.rel⟩)]
/-- the number whose bit i is p i, for i < k -/
def bitsN (p : Nat → Bool) : Nat → Nat
  | 0 => 0
  | k + 1 => bitsN p k + if p k then 2 ^ k else 0
/-- the indices of those worlds of a list that are in a set -/
def ixN (l : List Nat) (s k : Nat) : Nat := bitsN (fun i => s.testBit (l.getD i 0)) k
def ix (l : List Nat) (s : Nat) : Nat := ixN l s l.length
/-- subsets -/
def SubS (a b : Nat) : Prop := ∀ i, a.testBit i = true → b.testBit i = true
theorem SubS.refl (a : Nat) : SubS a a := fun _ h => h
theorem SubS.trans {a b c : Nat} (h : SubS a b) (k : SubS b c) : SubS a c := fun i hi => k i (h i hi)
theorem SubS.antisymm {a b : Nat} (h : SubS a b) (k : SubS b a) : a = b := by
  apply Nat.eq_of_testBit_eq
  intro i
  rw [Bool.eq_iff_iff]
  exact ⟨h i, k i⟩
theorem SubS.or_left (a b : Nat) : SubS a (a ||| b) := fun i h => by rw [Nat.testBit_or, h]; rfl
theorem SubS.or_right (a b : Nat) : SubS b (a ||| b) := fun i h => by rw [Nat.testBit_or, h, Bool.or_true]
theorem SubS.or {a b c : Nat} (h : SubS a c) (k : SubS b c) : SubS (a ||| b) c := fun i hi => by
  rw [Nat.testBit_or, Bool.or_eq_true] at hi
  rcases hi with hi | hi
  · exact h i hi
  · exact k i hi
theorem SubS.zero (a : Nat) : SubS 0 a := fun i h => by rw [Nat.zero_testBit] at h; cases h
theorem lt_of_sub {a n : Nat} (h : ∀ i, a.testBit i = true → i < n) : a < 2 ^ n := by
  apply Nat.lt_pow_two_of_testBit
  intro i hi
  cases e : a.testBit i
  · rfl
  · exact absurd (h i e) (by omega)
theorem bit_lt {a n i : Nat} (h : a < 2 ^ n) (hi : a.testBit i = true) : i < n := by
  rcases Nat.lt_or_ge i n with h' | h'
  · exact h'
  · rw [Nat.testBit_lt_two_pow (Nat.lt_of_lt_of_le h (Nat.pow_le_pow_right (by decide) h'))] at hi
    cases hi
theorem SubS.lt {a b n : Nat} (h : SubS a b) (hb : b < 2 ^ n) : a < 2 ^ n := lt_of_sub fun i hi => bit_lt hb (h i hi)
/-- no successor leads out of a set -/
def ClosedM (rel : List (List Nat)) (s : Nat) : Prop := ∀ r ∈ rel, ∀ w, s.testBit w = true → SubS (r.getD w 0) s
/-- the set that is reached -/
structure GenM (rel : List (List Nat)) (f g : Nat) : Prop where
  sub : SubS f g
  closed : ClosedM rel g
  least : ∀ t, SubS f t → ClosedM rel t → SubS g t
theorem GenM.unique {rel : List (List Nat)} {f g h : Nat} (a : GenM rel f g) (b : GenM rel f h) : g = h :=
  SubS.antisymm (a.least _ b.sub b.closed) (b.least _ a.sub a.closed)
/-- the successors of a world for the first k agents -/
def orW (rel : List (List Nat)) (w : Nat) : Nat → Nat
  | 0 => 0
  | k + 1 => orW rel w k ||| (rel.getD k []).getD w 0
theorem orW_sub {rel : List (List Nat)} {w t : Nat} (h : ∀ r ∈ rel, SubS (r.getD w 0) t) : ∀ k, k ≤ rel.length → SubS (orW rel w k) t
  | 0, _ => SubS.zero _
  | k + 1, hk => (orW_sub h k (by omega)).or (h _ (by rw [List.getD_eq_getElem?_getD, List.getElem?_eq_getElem (by omega)]; exact List.getElem_mem _))
theorem orW_mono {rel : List (List Nat)} {w : Nat} : ∀ {k j : Nat}, j ≤ k → SubS (orW rel w j) (orW rel w k)
  | 0, j, h => by rw [Nat.le_zero.1 h]; exact SubS.refl _
  | k + 1, j, h => by
    by_cases e : j = k + 1
    · rw [e]; exact SubS.refl _
    · exact (orW_mono (k := k) (by omega)).trans (SubS.or_left _ _)
theorem orW_of {rel : List (List Nat)} {w : Nat} {r : List Nat} (hr : r ∈ rel) : SubS (r.getD w 0) (orW rel w rel.length) := by
  obtain ⟨k, hk, rfl⟩ := List.getElem_of_mem hr
  have h1 : SubS (rel[k].getD w 0) (orW rel w (k + 1)) := by
    have e : rel.getD k [] = rel[k] := by simp [hk]
    rw [orW, e]
    exact SubS.or_right _ _
  exact h1.trans (orW_mono (by omega))
theorem orW_lt {rel : List (List Nat)} {w n : Nat} (h : ∀ r ∈ rel, ∀ x ∈ r, x < 2 ^ n) : ∀ k, k ≤ rel.length → orW rel w k < 2 ^ n
  | 0, _ => Nat.two_pow_pos n
  | k + 1, hk => by
    refine Nat.or_lt_two_pow (orW_lt h k (by omega)) ?_
    have e : rel.getD k [] = rel[k] := by simp [show k < rel.length by omega]
    rw [e]
    by_cases hw : w < rel[k].length
    · rw [List.getD_eq_getElem?_getD, List.getElem?_eq_getElem hw]
      exact h _ (List.getElem_mem _) _ (List.getElem_mem hw)
    · rw [List.getD_eq_getElem?_getD, List.getElem?_eq_none (by omega)]
      exact Nat.two_pow_pos n
/-- the state of the program's walk -/
structure GenS (rel : List (List Nat)) (n f o r : Nat) : Prop where
  sub : SubS f r
  opn : SubS o r
  lt : r < 2 ^ n
  done : ∀ x, r.testBit x = true → o.testBit x = false → ∀ q ∈ rel, SubS (q.getD x 0) r
  least : ∀ t, SubS f t → ClosedM rel t → SubS r t
theorem GenS.start {rel : List (List Nat)} {n f : Nat} (hf : f < 2 ^ n) : GenS rel n f f f :=
  ⟨SubS.refl _, SubS.refl _, hf, fun x h1 h2 => absurd (h1.symm.trans h2) (by decide), fun _ h _ => h⟩
theorem GenS.fin {rel : List (List Nat)} {n f r : Nat} (h : GenS rel n f 0 r) : GenM rel f r :=
  ⟨h.sub, fun q hq x hx => h.done x hx (Nat.zero_testBit x) q hq, h.least⟩
/-- a without b -/
def sdiff (a b : Nat) : Nat := a ^^^ (a &&& b)
theorem sdiff_bit (a b i : Nat) : (sdiff a b).testBit i = (a.testBit i && !b.testBit i) := by
  unfold sdiff
  rw [Nat.testBit_xor, Nat.testBit_and]
  cases a.testBit i <;> cases b.testBit i <;> rfl
/-- the sets behind k agents -/
def opnK (rel : List (List Nat)) (w o r : Nat) (k : Nat) : Nat := o ||| sdiff (orW rel w k) r
def rchK (rel : List (List Nat)) (w r : Nat) (k : Nat) : Nat := r ||| orW rel w k
theorem GenS.next {rel : List (List Nat)} {n f o r : Nat} (h : GenS rel n f o r) (hn : n ≤ 64) (ho : o ≠ 0) (hr : ∀ q ∈ rel, ∀ x ∈ q, x < 2 ^ n) :
    GenS rel n f (opnK rel (low o) (o &&& (o - 1)) r rel.length) (rchK rel (low o) r rel.length) := by
  have ho64 : o < 2 ^ 64 := SubS.lt h.opn (Nat.lt_of_lt_of_le h.lt (Nat.pow_le_pow_right (by decide) hn))
  have hb := testBit_low o ho ho64
  have hc := clear_low o ho ho64
  refine ⟨h.sub.trans (SubS.or_left _ _), ?_, Nat.or_lt_two_pow h.lt (orW_lt hr _ (Nat.le_refl _)), ?_, ?_⟩
  · intro i hi
    unfold opnK at hi
    unfold rchK
    rw [Nat.testBit_or, hc, sdiff_bit] at hi
    rw [Nat.testBit_or]
    have := h.opn i
    revert hi this
    cases o.testBit i <;> cases r.testBit i <;> cases (orW rel (low o) rel.length).testBit i <;> simp
  · intro x hx hox q hq
    unfold opnK at hox
    unfold rchK at hx ⊢
    rw [Nat.testBit_or, hc, sdiff_bit] at hox
    rw [Nat.testBit_or] at hx
    by_cases e : x = low o
    · subst e
      exact (orW_of hq).trans (SubS.or_right _ _)
    · rw [decide_eq_false e] at hox
      have hrx : r.testBit x = true := by
        revert hox hx
        cases o.testBit x <;> cases r.testBit x <;> cases (orW rel (low o) rel.length).testBit x <;> simp
      have hxo : o.testBit x = false := by
        revert hox
        cases o.testBit x <;> simp
      exact (h.done x hrx hxo q hq).trans (SubS.or_left _ _)
  · intro t ht hct
    have h1 := h.least t ht hct
    exact h1.or (orW_sub (fun q hq => hct q hq _ (h1 _ (h.opn _ hb))) _ (Nat.le_refl _))
end Go.Proofs.Ws
/- Layer 13: other numbers, unions and groups. -/
namespace Go.Proofs.Ws
theorem pigeon : ∀ (n : Nat) (f : Nat → Nat), (∀ i, i < n → f i < n) → (∀ i j, i < n → j < n → f i = f j → i = j) → ∀ j, j < n → ∃ i, i < n ∧ f i = j
  | 0, _, _, _, j, hj => absurd hj (by omega)
  | n + 1, f, hf, hi, j, hj => by
    have hg1 : ∀ i, i < n → (if f i = n then f n else f i) < n := fun i h => by
      have h1 := hf i (by omega)
      have h2 := hf n (by omega)
      split
      · rename_i e
        rcases Nat.lt_or_ge (f n) n with h' | h'
        · exact h'
        · have := hi i n (by omega) (by omega) (by omega); omega
      · omega
    have hg2 : ∀ i k, i < n → k < n → (if f i = n then f n else f i) = (if f k = n then f n else f k) → i = k := fun i k h1 h2 h => by
      split at h <;> split at h
      · exact hi i k (by omega) (by omega) (by omega)
      · have := hi n k (by omega) (by omega) h; omega
      · have := hi i n (by omega) (by omega) h; omega
      · exact hi i k (by omega) (by omega) h
    have ih := pigeon n (fun i => if f i = n then f n else f i) hg1 hg2
    by_cases h1 : j = f n
    · exact ⟨n, by omega, h1.symm⟩
    · by_cases h2 : j = n
      · have h3 := hf n (by omega)
        obtain ⟨i, hin, he⟩ := ih (f n) (by omega)
        split at he
        · rename_i e; exact ⟨i, by omega, by omega⟩
        · have := hi i n (by omega) (by omega) he; omega
      · obtain ⟨i, hin, he⟩ := ih j (by omega)
        split at he
        · omega
        · exact ⟨i, by omega, he⟩
/-- a list of the numbers below n, each once -/
structure PermL (n : Nat) (to : List Int) : Prop where
  len : to.length = n
  rng : ∀ i, i < n → 0 ≤ to.getD i 0 ∧ to.getD i 0 < n
  inj : ∀ i j, i < n → j < n → to.getD i 0 = to.getD j 0 → i = j
/-- the inverse of a list -/
structure IsInv (n : Nat) (to : List Int) (l : List Nat) : Prop where
  len : l.length = n
  at_ : ∀ i, i < n → l.getD i 0 < n ∧ to.getD (l.getD i 0) 0 = (i : Int)
theorem PermL.sur {n : Nat} {to : List Int} (h : PermL n to) {j : Nat} (hj : j < n) : ∃ i, i < n ∧ to.getD i 0 = (j : Int) := by
  obtain ⟨i, h1, h2⟩ := pigeon n (fun i => (to.getD i 0).toNat) (fun i hi => by have := h.rng i hi; omega)
    (fun i k hi hk e => h.inj i k hi hk (by have := h.rng i hi; have := h.rng k hk; omega)) j hj
  exact ⟨i, h1, by have := h.rng i h1; omega⟩
theorem IsInv.perm {n : Nat} {to : List Int} {l : List Nat} (a : IsInv n to l) (hl : to.length = n) : PermL n to := by
  have key : ∀ w, w < n → ∃ i, i < n ∧ l.getD i 0 = w := pigeon n (fun i => l.getD i 0) (fun i hi => (a.at_ i hi).1) (fun i k hi hk e => by
    have h1 := (a.at_ i hi).2
    have h2 := (a.at_ k hk).2
    rw [e] at h1
    omega)
  refine ⟨hl, fun w hw => ?_, fun w v hw hv e => ?_⟩
  · obtain ⟨i, hi, rfl⟩ := key w hw
    have := (a.at_ i hi).2
    omega
  · obtain ⟨i, hi, rfl⟩ := key w hw
    obtain ⟨k, hk, rfl⟩ := key v hv
    have h1 := (a.at_ i hi).2
    have h2 := (a.at_ k hk).2
    have : i = k := by omega
    rw [this]
theorem IsInv.unique {n : Nat} {to : List Int} {l k : List Nat} (h : PermL n to) (a : IsInv n to l) (b : IsInv n to k) : l = k := by
  apply List.ext_getElem (a.len.trans b.len.symm)
  intro i h1 h2
  have hi : i < n := by have := a.len; omega
  have e1 := a.at_ i hi
  have e2 := b.at_ i hi
  have := h.inj _ _ e1.1 e2.1 (by rw [e1.2, e2.2])
  simpa [h1, h2] using this
def invL (n : Nat) (to : List Int) : List Nat := (List.range n).map (fun i : Nat => to.findIdx (fun x : Int => decide (x = (i : Int))))
theorem invL_len (n : Nat) (to : List Int) : (invL n to).length = n := by simp [invL]
theorem invL_at (n : Nat) (to : List Int) {i : Nat} (h : i < n) : (invL n to).getD i 0 = to.findIdx (fun x => decide (x = (i : Int))) := by simp [invL, h]
theorem PermL.inv {n : Nat} {to : List Int} (h : PermL n to) : IsInv n to (invL n to) := by
  refine ⟨invL_len n to, fun i hi => ?_⟩
  obtain ⟨w, hw, e⟩ := h.sur hi
  rw [invL_at n to hi]
  have hl := h.len
  have hex : to.findIdx (fun x => decide (x = (i : Int))) < to.length := by
    rw [List.findIdx_lt_length]
    refine ⟨to.getD w 0, ?_, by simpa using e⟩
    rw [List.getD_eq_getElem?_getD, List.getElem?_eq_getElem (by omega)]
    exact List.getElem_mem _
  refine ⟨by omega, ?_⟩
  have := List.findIdx_getElem (w := hex)
  rw [List.getD_eq_getElem?_getD, List.getElem?_eq_getElem hex]
  simpa using this
/-- the program's walk through a list: the first k numbers are fine -/
structure PreP (n : Nat) (to : List Int) (k : Nat) : Prop where
  rng : ∀ i, i < k → 0 ≤ to.getD i 0 ∧ to.getD i 0 < n
  inj : ∀ i j, i < k → j < k → to.getD i 0 = to.getD j 0 → i = j
def seenK (to : List Int) : Nat → Nat
  | 0 => 0
  | k + 1 => seenK to k ||| 2 ^ (to.getD k 0).toNat
def frK (n : Nat) (to : List Int) : Nat → List Nat
  | 0 => List.replicate n 0
  | k + 1 => (frK n to k).set (to.getD k 0).toNat k
theorem frK_len (n : Nat) (to : List Int) : ∀ k, (frK n to k).length = n
  | 0 => by simp [frK]
  | k + 1 => by rw [frK, List.length_set]; exact frK_len n to k
theorem seenK_bit {n : Nat} {to : List Int} : ∀ {k : Nat}, PreP n to k → ∀ i : Nat, (seenK to k).testBit i = true ↔ ∃ j, j < k ∧ to.getD j 0 = (i : Int)
  | 0, _, i => by
    rw [seenK, Nat.zero_testBit]
    exact ⟨fun h => (by cases h), fun ⟨j, hj, _⟩ => absurd hj (by omega)⟩
  | k + 1, h, i => by
    have ih := seenK_bit (k := k) ⟨fun i hi => h.rng i (by omega), fun i j hi hj => h.inj i j (by omega) (by omega)⟩ i
    rw [seenK, Nat.testBit_or, Bool.or_eq_true, ih, Nat.testBit_two_pow]
    have hr := h.rng k (by omega)
    constructor
    · rintro (⟨j, h1, h2⟩ | h1)
      · exact ⟨j, by omega, h2⟩
      · have := of_decide_eq_true h1
        exact ⟨k, by omega, by omega⟩
    · rintro ⟨j, h1, h2⟩
      by_cases e : j = k
      · subst e; exact .inr (decide_eq_true (by omega))
      · exact .inl ⟨j, by omega, h2⟩
theorem PreP.zero (n : Nat) (to : List Int) : PreP n to 0 := ⟨fun i hi => absurd hi (by omega), fun i j hi _ => absurd hi (by omega)⟩
theorem PreP.next {n : Nat} {to : List Int} {k : Nat} (h : PreP n to k) (h0 : 0 ≤ to.getD k 0) (h1 : to.getD k 0 < n) (h2 : (seenK to k).testBit (to.getD k 0).toNat = false) : PreP n to (k + 1) := by
  have hn : ∀ j, j < k → to.getD j 0 ≠ to.getD k 0 := fun j hj e => by
    have := (seenK_bit h (to.getD k 0).toNat).2 ⟨j, hj, by omega⟩
    rw [h2] at this; cases this
  refine ⟨fun i hi => ?_, fun i j hi hj e => ?_⟩
  · by_cases e : i = k
    · subst e; exact ⟨h0, h1⟩
    · exact h.rng i (by omega)
  · by_cases e1 : i = k
    · by_cases e2 : j = k
      · omega
      · subst e1; exact absurd e.symm (hn j (by omega))
    · by_cases e2 : j = k
      · subst e2; exact absurd e (hn i (by omega))
      · exact h.inj i j (by omega) (by omega) e
theorem frK_at {n : Nat} {to : List Int} : ∀ {k : Nat}, PreP n to k → ∀ j, j < k → (frK n to k).getD (to.getD j 0).toNat 0 = j
  | 0, _, j, hj => absurd hj (by omega)
  | k + 1, h, j, hj => by
    have h' : PreP n to k := ⟨fun i hi => h.rng i (by omega), fun i j hi hj => h.inj i j (by omega) (by omega)⟩
    have hl := frK_len n to k
    have hr := h.rng k (by omega)
    have hrj := h.rng j hj
    rw [frK, List.getD_eq_getElem?_getD, List.getElem?_set]
    by_cases e : j = k
    · subst e
      rw [if_pos rfl, if_pos (by omega)]; rfl
    · rw [if_neg (fun e2 => e (h.inj j k hj (by omega) (by omega)))]
      rw [← List.getD_eq_getElem?_getD]
      exact frK_at h' j (by omega)
theorem PreP.perm {n : Nat} {to : List Int} (h : PreP n to n) (hl : to.length = n) : PermL n to := ⟨hl, h.rng, h.inj⟩
theorem PreP.fin {n : Nat} {to : List Int} (h : PreP n to n) (hl : to.length = n) : frK n to n = invL n to := by
  have p := h.perm hl
  refine IsInv.unique p ⟨frK_len n to n, fun i hi => ?_⟩ p.inv
  obtain ⟨w, hw, e⟩ := p.sur hi
  have h1 := frK_at h w hw
  rw [e] at h1
  rw [show ((i : Int)).toNat = i from rfl] at h1
  rw [h1]
  exact ⟨hw, e⟩
/-- the reference's walk -/
def posL (to : List Int) (i k : Nat) : List Nat := (List.range k).filter (fun w => decide (to.getD w 0 = (i : Int)))
theorem posL_hit (to : List Int) (i k : Nat) (h : to.getD k 0 = (i : Int)) : posL to i (k + 1) = posL to i k ++ [k] := by
  unfold posL; rw [List.range_succ, List.filter_append]; simp only [List.filter_cons, List.filter_nil, decide_eq_true h, if_true]
theorem posL_miss (to : List Int) (i k : Nat) (h : ¬ to.getD k 0 = (i : Int)) : posL to i (k + 1) = posL to i k := by
  unfold posL; rw [List.range_succ, List.filter_append]; simp only [List.filter_cons, List.filter_nil, decide_eq_false h]; simp
theorem PermL.pos {n : Nat} {to : List Int} (h : PermL n to) {i w : Nat} (hw : w < n) (e : to.getD w 0 = (i : Int)) : ∀ k, k ≤ n → posL to i k = if w < k then [w] else []
  | 0, _ => by rw [if_neg (by omega)]; rfl
  | k + 1, hk => by
    have ih := h.pos hw e k (by omega)
    by_cases h1 : to.getD k 0 = (i : Int)
    · have : k = w := h.inj k w (by omega) hw (by rw [h1, e])
      subst this
      rw [posL_hit to i k h1, ih, if_neg (by omega), if_pos (by omega)]; rfl
    · rw [posL_miss to i k h1, ih]
      have : k ≠ w := fun e2 => h1 (by rw [e2]; exact e)
      by_cases h2 : w < k
      · rw [if_pos h2, if_pos (by omega)]
      · rw [if_neg h2, if_neg (by omega)]
/-- the inverse of the first i numbers -/
structure InvK (n : Nat) (to : List Int) (i : Nat) (l : List Nat) : Prop where
  len : l.length = i
  at_ : ∀ j, j < i → l.getD j 0 < n ∧ to.getD (l.getD j 0) 0 = (j : Int)
theorem InvK.zero (n : Nat) (to : List Int) : InvK n to 0 [] := ⟨rfl, fun j hj => absurd hj (by omega)⟩
theorem InvK.next {n i : Nat} {to : List Int} {l : List Nat} (h : InvK n to i l) (h1 : (posL to i n).length = 1) : InvK n to (i + 1) (l ++ posL to i n) := by
  obtain ⟨w, hw⟩ : ∃ w, posL to i n = [w] := List.length_eq_one_iff.1 h1
  have hm : w ∈ posL to i n := by rw [hw]; exact List.mem_singleton.2 rfl
  unfold posL at hm
  rw [List.mem_filter, List.mem_range, decide_eq_true_eq] at hm
  rw [hw]
  have hl := h.len
  refine ⟨by rw [List.length_append, hl]; rfl, fun j hj => ?_⟩
  by_cases e : j = i
  · subst e
    have : (l ++ [w]).getD j 0 = w := by rw [List.getD_eq_getElem?_getD, List.getElem?_append_right (by omega)]; simp [hl]
    rw [this]; exact hm
  · have : (l ++ [w]).getD j 0 = l.getD j 0 := by rw [List.getD_eq_getElem?_getD, List.getElem?_append_left (by omega), ← List.getD_eq_getElem?_getD]
    rw [this]; exact h.at_ j (by omega)
theorem InvK.fin {n : Nat} {to : List Int} {l : List Nat} (h : InvK n to n l) (hl : to.length = n) : PermL n to ∧ l = invL n to := by
  have a : IsInv n to l := ⟨h.len, h.at_⟩
  have p := a.perm hl
  exact ⟨p, a.unique p p.inv⟩
def mo0 : Mo := ⟨0, [], []⟩
end Go.Proofs.Ws
