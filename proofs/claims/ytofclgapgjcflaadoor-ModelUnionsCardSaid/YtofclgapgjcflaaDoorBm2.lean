/- How many bits are set: the arithmetic of the word-parallel count, byte by byte (no program in sight). -/
import Derived.Test.YtofclgapgjcflaaDoorBm
namespace Go.Proofs.Ws

def cnt : Nat → Nat → Nat
  | 0, _ => 0
  | k + 1, s => s % 2 + cnt k (s / 2)

theorem filter_len (k : Nat) : ∀ s : Nat, ((List.range k).filter (fun w => s.testBit w)).length = cnt k s := by
  induction k with
  | zero => intro s; rfl
  | succ k ih =>
    intro s
    rw [List.range_succ_eq_map, List.filter_cons]
    have e : (List.filter (fun w => s.testBit w) (List.map Nat.succ (List.range k))).length = cnt k (s / 2) := by
      rw [List.filter_map, List.length_map, ← ih (s / 2)]
      congr 2
      funext w
      simp [Nat.testBit_succ]
    have h2 : s % 2 = 0 ∨ s % 2 = 1 := by omega
    rw [cnt]
    rcases h2 with h2 | h2
    · rw [if_neg (by simp [Nat.testBit_zero, h2]), e, h2]; omega
    · rw [if_pos (by simp [Nat.testBit_zero, h2]), List.length_cons, e, h2]; omega

theorem mem_cnt (s : Nat) : (mem s).length = cnt 64 s := filter_len 64 s

theorem cnt_byte (k s : Nat) : cnt (8 + k) s = cnt 8 (s % 256) + cnt k (s / 256) := by
  rw [Nat.add_comm]
  simp only [cnt, Nat.div_div_eq_div_mul, Nat.reduceMul]
  have e0 : s % 256 % 2 = s % 2 := by omega
  have e1 : s % 256 / 2 % 2 = s / 2 % 2 := by omega
  have e2 : s % 256 / 4 % 2 = s / 4 % 2 := by omega
  have e3 : s % 256 / 8 % 2 = s / 8 % 2 := by omega
  have e4 : s % 256 / 16 % 2 = s / 16 % 2 := by omega
  have e5 : s % 256 / 32 % 2 = s / 32 % 2 := by omega
  have e6 : s % 256 / 64 % 2 = s / 64 % 2 := by omega
  have e7 : s % 256 / 128 % 2 = s / 128 % 2 := by omega
  rw [e0, e1, e2, e3, e4, e5, e6, e7]
  simp only [Nat.add_assoc, Nat.add_zero]

def M (c : Nat) : Nat → Nat
  | 0 => 0
  | n + 1 => c + 256 * M c n

theorem and_split (a b c d : Nat) (ha : a < 256) (hc : c < 256) : (a + 256 * b) &&& (c + 256 * d) = (a &&& c) + 256 * (b &&& d) := by
  have ha' : a < 2 ^ 8 := ha
  have hc' : c < 2 ^ 8 := hc
  have hac : a &&& c < 2 ^ 8 := Nat.lt_of_le_of_lt Nat.and_le_left ha'
  apply Nat.eq_of_testBit_eq
  intro i
  rw [show a + 256 * b = 2 ^ 8 * b + a from by omega, show c + 256 * d = 2 ^ 8 * d + c from by omega, show (a &&& c) + 256 * (b &&& d) = 2 ^ 8 * (b &&& d) + (a &&& c) from by omega]
  rw [Nat.testBit_and, Nat.testBit_two_pow_mul_add _ ha', Nat.testBit_two_pow_mul_add _ hc', Nat.testBit_two_pow_mul_add _ hac]
  by_cases h : i < 8 <;> simp [h, Nat.testBit_and]

def g1 (y : Nat) : Nat := (y / 2 &&& 85) + (y &&& 85)
def g2 (y : Nat) : Nat := (y / 4 &&& 51) + (y &&& 51)
def g3 (y : Nat) : Nat := (y / 16 + y) &&& 15
theorem t1 : ∀ y : Fin 256, ∀ c : Fin 2, (y.1 / 2 + 128 * c.1) &&& 85 = y.1 / 2 &&& 85 := by decide +kernel
theorem t2 : ∀ y : Fin 256, ∀ c : Fin 4, (y.1 / 4 + 64 * c.1) &&& 51 = y.1 / 4 &&& 51 := by decide +kernel
theorem b1 : ∀ y : Fin 256, g1 y.1 < 256 := by decide +kernel
theorem b2 : ∀ y : Fin 256, g2 (g1 y.1) % 16 ≤ 4 ∧ g2 (g1 y.1) / 16 ≤ 4 ∧ g2 (g1 y.1) < 256 := by decide +kernel
theorem b3 : ∀ y : Fin 256, g3 (g2 (g1 y.1)) = cnt 8 y.1 ∧ cnt 8 y.1 ≤ 8 := by decide +kernel

def F1 (n s : Nat) : Nat := (s / 2 &&& M 85 n) + (s &&& M 85 n)
def F2 (n s : Nat) : Nat := (s / 4 &&& M 51 n) + (s &&& M 51 n)
def F3 (n s : Nat) : Nat := (s / 16 + s) &&& M 15 n

theorem F1_step (n y b : Nat) (hy : y < 256) : F1 (n + 1) (y + 256 * b) = g1 y + 256 * F1 n b := by
  unfold F1 g1
  have e : (y + 256 * b) / 2 = (y / 2 + 128 * (b % 2)) + 256 * (b / 2) := by omega
  have h := t1 ⟨y, hy⟩ ⟨b % 2, by omega⟩
  simp only at h
  rw [e, M, and_split _ _ _ _ (by omega) (by omega), and_split _ _ _ _ hy (by omega), h]
  omega
theorem F2_step (n y b : Nat) (hy : y < 256) : F2 (n + 1) (y + 256 * b) = g2 y + 256 * F2 n b := by
  unfold F2 g2
  have e : (y + 256 * b) / 4 = (y / 4 + 64 * (b % 4)) + 256 * (b / 4) := by omega
  have h := t2 ⟨y, hy⟩ ⟨b % 4, by omega⟩
  simp only at h
  rw [e, M, and_split _ _ _ _ (by omega) (by omega), and_split _ _ _ _ hy (by omega), h]
  omega
theorem and15 (x : Nat) : x &&& 15 = x % 16 := Nat.and_two_pow_sub_one_eq_mod x 4
theorem F3_step (n y b : Nat) (h1 : y % 16 ≤ 4) (h2 : y / 16 ≤ 4) (h3 : b % 16 ≤ 4) : F3 (n + 1) (y + 256 * b) = g3 y + 256 * F3 n b := by
  unfold F3 g3
  have e : (y + 256 * b) / 16 + (y + 256 * b) = (y / 16 + y + 16 * (b % 16)) + 256 * (b / 16 + b) := by omega
  have h : (y / 16 + y + 16 * (b % 16)) &&& 15 = (y / 16 + y) &&& 15 := by rw [and15, and15]; omega
  rw [e, M, and_split _ _ _ _ (by omega) (by omega), h]

theorem step' (n s : Nat) : F3 (n + 1) (F2 (n + 1) (F1 (n + 1) s)) = cnt 8 (s % 256) + 256 * F3 n (F2 n (F1 n (s / 256))) := by
  have h : ∀ m t : Nat, F2 m (F1 m t) % 16 ≤ 4 := by
    intro m t
    cases m with
    | zero => simp [F2, F1, M]
    | succ m =>
      have h1 : t = t % 256 + 256 * (t / 256) := by omega
      have hb := b2 ⟨t % 256, by omega⟩
      have hb1 := b1 ⟨t % 256, by omega⟩
      simp only at hb hb1
      rw [h1, F1_step _ _ _ (by omega), F2_step _ _ _ hb1]
      omega
  have hy : s % 256 < 256 := by omega
  have hb1 := b1 ⟨s % 256, hy⟩
  have hb2 := b2 ⟨s % 256, hy⟩
  have hb3 := b3 ⟨s % 256, hy⟩
  simp only at hb1 hb2 hb3
  have h1 : s = s % 256 + 256 * (s / 256) := by omega
  conv => lhs; rw [h1]
  rw [F1_step _ _ _ hy, F2_step _ _ _ hb1, F3_step _ _ _ hb2.1 hb2.2.1 (h _ _), hb3.1]

theorem cnt8_le (s : Nat) : cnt 8 (s % 256) ≤ 8 := (b3 ⟨s % 256, by omega⟩).2

theorem M85 : M 85 8 = 6148914691236517205 := by decide +kernel
theorem M51 : M 51 8 = 3689348814741910323 := by decide +kernel
theorem M15 : M 15 8 = 1085102592571150095 := by decide +kernel

theorem fin_len (x y : Nat) (hx : x < 4294967296) (hy : y < 268435456) : (x + 4294967296 * y) / 4294967296 = y ∧ x + 4294967296 * y < 18446744073709551616 ∧ x + 4294967296 * y + y < 9223372036854775808 ∧ (x + 4294967296 * y + y) % 128 = (x + y) % 128 := by
  refine ⟨?_, ?_, ?_, ?_⟩ <;> omega
theorem fin_mod (d0 d4 u v : Nat) (h : d0 + d4 ≤ 64) : (d0 + 256 * u + (d4 + 256 * v)) % 128 = d0 + d4 := by omega
theorem two_step (c0 c1 r : Nat) (h0 : c0 ≤ 16) (h1 : c1 ≤ 16) : (c0 + 256 * (c1 + 256 * r)) / 65536 = r := by omega
theorem one_step (c0 r : Nat) (h0 : c0 ≤ 8) : (c0 + 256 * r) / 256 = r := by omega

/-- the last three steps over eight small bytes -/
theorem tail (c0 c1 c2 c3 c4 c5 c6 c7 a3 : Nat) (l0 : c0 ≤ 8) (l1 : c1 ≤ 8) (l2 : c2 ≤ 8) (l3 : c3 ≤ 8) (l4 : c4 ≤ 8) (l5 : c5 ≤ 8) (l6 : c6 ≤ 8) (l7 : c7 ≤ 8)
    (e : a3 = c0 + 256 * (c1 + 256 * (c2 + 256 * (c3 + 256 * (c4 + 256 * (c5 + 256 * (c6 + 256 * c7))))))) :
    ∃ a4 a5 a6, a4 = a3 + a3 / 256 ∧ a5 = a4 + a4 / 65536 ∧ a6 = a5 + a5 / 4294967296 ∧ a3 < 18446744073709551616 ∧ a4 < 18446744073709551616 ∧ a5 < 18446744073709551616 ∧ a6 < 9223372036854775808 ∧ a6 % 128 = c0 + (c1 + (c2 + (c3 + (c4 + (c5 + (c6 + c7)))))) := by
  have q3 : a3 / 256 = c1 + 256 * (c2 + 256 * (c3 + 256 * (c4 + 256 * (c5 + 256 * (c6 + 256 * c7))))) := by rw [e]; exact one_step _ _ l0
  have p4 : a3 + a3 / 256 = (c0 + c1) + 256 * ((c1 + c2) + 256 * ((c2 + c3) + 256 * ((c3 + c4) + 256 * ((c4 + c5) + 256 * ((c5 + c6) + 256 * ((c6 + c7) + 256 * c7)))))) := by rw [q3, e]; clear q3 e; omega
  have h3 : a3 < 18446744073709551616 := by rw [e]; clear e q3 p4; omega
  have h4 : a3 + a3 / 256 < 18446744073709551616 := by rw [p4]; clear e q3 p4 h3; omega
  clear e q3
  have q4 : (a3 + a3 / 256) / 65536 = (c2 + c3) + 256 * ((c3 + c4) + 256 * ((c4 + c5) + 256 * ((c5 + c6) + 256 * ((c6 + c7) + 256 * c7)))) := by rw [p4]; exact two_step _ _ _ (by omega) (by omega)
  have p5 : (a3 + a3 / 256) + (a3 + a3 / 256) / 65536 = (c0 + c1 + c2 + c3 + 256 * (c1 + c2 + c3 + c4 + 256 * (c2 + c3 + c4 + c5 + 256 * (c3 + c4 + c5 + c6)))) + 4294967296 * (c4 + c5 + c6 + c7 + 256 * (c5 + c6 + c7 + 256 * (c6 + c7 + 256 * c7))) := by rw [q4, p4]; clear q4 p4 h3 h4; omega
  obtain ⟨f1, f2, f3, f4⟩ := fin_len (c0 + c1 + c2 + c3 + 256 * (c1 + c2 + c3 + c4 + 256 * (c2 + c3 + c4 + c5 + 256 * (c3 + c4 + c5 + c6)))) (c4 + c5 + c6 + c7 + 256 * (c5 + c6 + c7 + 256 * (c6 + c7 + 256 * c7))) (by clear p4 p5 q4 h3 h4; omega) (by clear p4 p5 q4 h3 h4; omega)
  rw [fin_mod _ _ _ _ (by clear p4 p5 q4 h3 h4 f1 f2 f3 f4; omega)] at f4
  rw [← p5] at f1 f2
  refine ⟨_, _, _, rfl, rfl, rfl, h3, h4, f2, ?_, ?_⟩
  · rw [f1, p5]; exact f3
  · rw [f1, p5, f4]; clear p4 p5 q4 h3 h4 f1 f2 f3 f4; omega

/-- what the six steps come to: every step fits a word; the last seven bits are the count -/
theorem swar (s : Nat) : ∃ a1 a2 a3 a4 a5 a6 : Nat,
    a1 = (s / 2 &&& 6148914691236517205) + (s &&& 6148914691236517205) ∧ a2 = (a1 / 4 &&& 3689348814741910323) + (a1 &&& 3689348814741910323) ∧
    a3 = (a2 / 16 + a2) &&& 1085102592571150095 ∧ a4 = a3 + a3 / 256 ∧ a5 = a4 + a4 / 65536 ∧ a6 = a5 + a5 / 4294967296 ∧
    a1 < 18446744073709551616 ∧ a2 / 16 + a2 < 18446744073709551616 ∧ a3 < 18446744073709551616 ∧ a4 < 18446744073709551616 ∧ a5 < 18446744073709551616 ∧ a6 < 9223372036854775808 ∧ a6 % 128 = (mem s).length := by
  have k1 : F1 8 s ≤ 2 * M 85 8 := by
    unfold F1; have h1 : s / 2 &&& M 85 8 ≤ M 85 8 := Nat.and_le_right; have h2 : s &&& M 85 8 ≤ M 85 8 := Nat.and_le_right; omega
  have k2 : F2 8 (F1 8 s) ≤ 2 * M 51 8 := by
    generalize F1 8 s = t; unfold F2; have h1 : t / 4 &&& M 51 8 ≤ M 51 8 := Nat.and_le_right; have h2 : t &&& M 51 8 ≤ M 51 8 := Nat.and_le_right; omega
  rw [M85] at k1
  rw [M51] at k2
  have e3 : F3 8 (F2 8 (F1 8 s)) = cnt 8 (s % 256) + 256 * (cnt 8 (s / 256 % 256) + 256 * (cnt 8 (s / 65536 % 256) + 256 * (cnt 8 (s / 16777216 % 256) + 256 * (cnt 8 (s / 4294967296 % 256) + 256 * (cnt 8 (s / 1099511627776 % 256) + 256 * (cnt 8 (s / 281474976710656 % 256) + 256 * (cnt 8 (s / 72057594037927936 % 256)))))))) := by
    have z : ∀ t, F3 0 (F2 0 (F1 0 t)) = 0 := by intro t; simp [F3, F2, F1, M]
    rw [step', step', step', step', step', step', step', step', z]
    simp only [Nat.div_div_eq_div_mul, Nat.reduceMul, Nat.mul_zero, Nat.add_zero]
  have e4 : (mem s).length = cnt 8 (s % 256) + (cnt 8 (s / 256 % 256) + (cnt 8 (s / 65536 % 256) + (cnt 8 (s / 16777216 % 256) + (cnt 8 (s / 4294967296 % 256) + (cnt 8 (s / 1099511627776 % 256) + (cnt 8 (s / 281474976710656 % 256) + (cnt 8 (s / 72057594037927936 % 256)))))))) := by
    rw [mem_cnt, show (64 : Nat) = 8 + (8 + (8 + (8 + (8 + (8 + (8 + (8 + 0))))))) from rfl, cnt_byte, cnt_byte, cnt_byte, cnt_byte, cnt_byte, cnt_byte, cnt_byte, cnt_byte]
    simp only [Nat.div_div_eq_div_mul, Nat.reduceMul]
    have z : ∀ t, cnt 0 t = 0 := fun _ => rfl
    rw [z, Nat.add_zero]
  obtain ⟨a4, a5, a6, x4, x5, x6, h3, h4, h5, h6, h7⟩ := tail _ _ _ _ _ _ _ _ _ (cnt8_le s) (cnt8_le (s / 256)) (cnt8_le (s / 65536)) (cnt8_le (s / 16777216)) (cnt8_le (s / 4294967296)) (cnt8_le (s / 1099511627776)) (cnt8_le (s / 281474976710656)) (cnt8_le (s / 72057594037927936)) e3
  rw [← e4] at h7
  clear e3 e4
  exact ⟨F1 8 s, F2 8 (F1 8 s), F3 8 (F2 8 (F1 8 s)), a4, a5, a6, by unfold F1; rw [M85], by rw [F2, M51], by rw [F3, M15], x4, x5, x6, by omega, by omega, h3, h4, h5, h6, h7⟩
end Go.Proofs.Ws
