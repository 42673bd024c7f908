/- The subsets ascend, lie in the set, and end with it (no program in sight). -/
import Derived.Test.YtofclgapgjcflaaDoorBm4
namespace Go.Proofs.Ws

/-- a list of worlds that ascends from b on -/
def Asc : Nat → List Nat → Prop
  | _, [] => True
  | b, w :: l => b ≤ w ∧ Asc (w + 1) l

theorem Asc.mono {b c : Nat} : ∀ {l : List Nat}, Asc c l → b ≤ c → Asc b l
  | [], _, _ => trivial
  | _ :: _, h, hb => ⟨Nat.le_trans hb h.1, h.2⟩

theorem asc_filter (p : Nat → Bool) : ∀ (n b : Nat), Asc b ((List.range' b n).filter p)
  | 0, _ => trivial
  | n + 1, b => by
    rw [List.range'_succ, List.filter_cons]
    split
    · exact ⟨Nat.le_refl _, asc_filter p n (b + 1)⟩
    · exact (asc_filter p n (b + 1)).mono (by omega)

theorem asc_mem (s : Nat) : Asc 0 (mem s) := by
  unfold mem
  rw [List.range_eq_range']
  exact asc_filter _ 64 0

theorem subL_dvd : ∀ (l : List Nat) (b i : Nat), Asc b l → 2 ^ b ∣ subL l i
  | [], _, _, _ => Nat.dvd_zero _
  | w :: l, b, i, h => by
    have h1 := subL_dvd l (w + 1) (i / 2) h.2
    have h2 : 2 ^ b ∣ 2 ^ w := Nat.pow_dvd_pow 2 h.1
    have h3 : 2 ^ b ∣ 2 ^ (w + 1) := Nat.pow_dvd_pow 2 (by have := h.1; omega)
    have h4 := Nat.dvd_trans h3 h1
    have h5 : (if i % 2 = 1 then 2 ^ w else 0) < 2 ^ (w + 1) := by
      split
      · exact Nat.pow_lt_pow_right (by decide) (by omega)
      · exact Nat.two_pow_pos _
    have h6 : 2 ^ b ∣ (if i % 2 = 1 then 2 ^ w else 0) := by
      split
      · exact h2
      · exact Nat.dvd_zero _
    rw [subL]
    rw [Nat.or_comm, Lib_join (w + 1) _ _ h1 h5]
    exact Nat.dvd_add h4 h6
where
  Lib_join (i x y : Nat) (hx : 2 ^ i ∣ x) (hy : y < 2 ^ i) : x ||| y = x + y := by
    obtain ⟨a, rfl⟩ := hx
    exact (Nat.two_pow_add_eq_or_of_lt hy a).symm

theorem or_add (i x y : Nat) (hx : 2 ^ i ∣ x) (hy : y < 2 ^ i) : y ||| x = y + x := by
  obtain ⟨a, rfl⟩ := hx
  rw [Nat.or_comm, Nat.add_comm]
  exact (Nat.two_pow_add_eq_or_of_lt hy a).symm

theorem subL_cons (w : Nat) (l : List Nat) (i : Nat) (h : Asc (w + 1) l) : subL (w :: l) i = (if i % 2 = 1 then 2 ^ w else 0) + subL l (i / 2) := by
  rw [subL]
  apply or_add (w + 1) _ _ (subL_dvd l (w + 1) _ h)
  split
  · exact Nat.pow_lt_pow_right (by decide) (by omega)
  · exact Nat.two_pow_pos _

theorem subL_lt : ∀ (l : List Nat) (b i j : Nat), Asc b l → i < j → j < 2 ^ l.length → subL l i < subL l j
  | [], _, i, j, _, h1, h2 => by simp at h2; omega
  | w :: l, b, i, j, h, h1, h2 => by
    rw [subL_cons w l i h.2, subL_cons w l j h.2]
    have hp := Nat.two_pow_pos w
    rw [List.length_cons, Nat.pow_succ] at h2
    by_cases he : i / 2 = j / 2
    · rw [he, if_neg (by omega), if_pos (by omega)]
      omega
    · have ih := subL_lt l (w + 1) (i / 2) (j / 2) h.2 (by omega) (by omega)
      obtain ⟨x, hx⟩ := subL_dvd l (w + 1) (i / 2) h.2
      obtain ⟨y, hy⟩ := subL_dvd l (w + 1) (j / 2) h.2
      rw [hx, hy] at ih ⊢
      have hxy := Nat.lt_of_mul_lt_mul_left ih
      have h3 : 2 ^ (w + 1) * (x + 1) ≤ 2 ^ (w + 1) * y := Nat.mul_le_mul_left _ hxy
      rw [Nat.mul_add, Nat.mul_one, Nat.pow_succ] at h3
      rw [Nat.pow_succ]
      split <;> split <;> omega

theorem subL_bit : ∀ (l : List Nat) (i x : Nat), (subL l i).testBit x = true → x ∈ l
  | [], _, x, h => by simp [subL] at h
  | w :: l, i, x, h => by
    rw [subL, Nat.testBit_or, Bool.or_eq_true] at h
    rcases h with h | h
    · split at h
      · rw [Nat.testBit_two_pow] at h
        have : w = x := by simpa using h
        subst this
        exact List.mem_cons_self
      · simp at h
    · exact List.mem_cons_of_mem _ (subL_bit l (i / 2) x h)

theorem subL_full : ∀ (l : List Nat) (x : Nat), (subL l (2 ^ l.length - 1)).testBit x = decide (x ∈ l)
  | [], x => by simp [subL]
  | w :: l, x => by
    have h2 := Nat.two_pow_pos l.length
    have e1 : (2 ^ (w :: l).length - 1) % 2 = 1 := by rw [List.length_cons, Nat.pow_succ]; omega
    have e2 : (2 ^ (w :: l).length - 1) / 2 = 2 ^ l.length - 1 := by rw [List.length_cons, Nat.pow_succ]; omega
    rw [subL, if_pos e1, e2, Nat.testBit_or, subL_full l x, Nat.testBit_two_pow]
    by_cases h : w = x
    · subst h; simp
    · have h' : ¬ (x = w) := fun e => h e.symm
      simp [h, h']

theorem mem_iff (s : Nat) (x : Nat) : x ∈ mem s ↔ x < 64 ∧ s.testBit x = true := by
  unfold mem
  rw [List.mem_filter, List.mem_range]

theorem bit_ge (s x : Nat) (hs : s < 18446744073709551616) (hx : 64 ≤ x) : s.testBit x = false :=
  Nat.testBit_lt_two_pow (Nat.lt_of_lt_of_le hs (Nat.pow_le_pow_right (by decide) hx : 2 ^ 64 ≤ 2 ^ x))

theorem subL_all (s : Nat) (hs : s < 18446744073709551616) : subL (mem s) (2 ^ (mem s).length - 1) = s := by
  apply Nat.eq_of_testBit_eq
  intro x
  rw [subL_full]
  by_cases h : x < 64
  · cases hb : s.testBit x
    · simp [mem_iff, hb]
    · simp [mem_iff, hb, h]
  · rw [bit_ge s x hs (by omega)]
    simp [mem_iff]; omega

theorem subL_in (s i : Nat) (hs : s < 18446744073709551616) : subL (mem s) i &&& (18446744073709551615 - s) = 0 := by
  apply Nat.eq_of_testBit_eq
  intro x
  rw [Nat.testBit_and, Nat.zero_testBit]
  cases hb : (subL (mem s) i).testBit x
  · rfl
  · have h1 := (mem_iff s x).1 (subL_bit _ _ _ hb)
    have z := Nat.testBit_two_pow_sub_succ (x := s) (n := 64) (by omega) x
    rw [show 2 ^ 64 - (s + 1) = 18446744073709551615 - s from by omega, h1.2] at z
    rw [z]; simp

theorem subL_lt64 (s i : Nat) : subL (mem s) i < 18446744073709551616 := by
  apply Nat.lt_pow_two_of_testBit (n := 64)
  intro x hx
  cases hb : (subL (mem s) i).testBit x
  · rfl
  · have := ((mem_iff s x).1 (subL_bit _ _ _ hb)).1
    omega
end Go.Proofs.Ws
