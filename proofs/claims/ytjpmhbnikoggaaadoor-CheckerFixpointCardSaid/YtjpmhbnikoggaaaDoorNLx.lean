/- Layer 17 as mathematics: common knowledge at a world, and by paths of a bounded length. -/
import Derived.Test.YtjpmhbnikoggaaaDoorNKg
namespace Go.Proofs.YtjpmhbnikoggaaaDoor
open Go.RowKit Go.Proofs.Ws
set_option maxRecDepth 100000
theorem one_meets (w z : Nat) : 2 ^ w &&& z ≠ 0 ↔ z.testBit w = true := by
  rw [meets_iff]
  constructor
  · rintro ⟨v, h1, h2⟩
    rw [Nat.testBit_two_pow, decide_eq_true_eq] at h1
    subst h1
    exact h2
  · intro h
    exact ⟨w, by rw [Nat.testBit_two_pow]; exact decide_eq_true rfl, h⟩
theorem com_bit {m : Mo} {N : Nat} {g : Int} (hz : chkM m = 0) (ok : OkM N m) (hg : 1 ≤ g ∧ g < 2 ^ m.rel.length) (x y w : Nat) :
    (comV m g x y).testBit w = true ↔ w < N ∧ ∀ K, K < N → ¬ (lvl ((groupL m g).map (· &&& x)) (anN (allV N) y) (K + 1)).testBit w = true := by
  have hs := sh_and (grp_sh hz ok hg).1 x
  have h0 := sh_errQ ok.le hs
  have hl := hs.1
  have hn : allV m.n = allV N := by rw [ok.num]
  have hall : allV N < 18446744073709551616 := allV_lt _
  unfold comV
  generalize (groupL m g).map (· &&& x) = T at *
  have hc := conv_err h0 hl
  have hcl : (convV T).length = N := by rw [conv_len, hl]
  have hr : reachV (convV T) (anN (allV N) y) < 18446744073709551616 := pow64 ok.le (reach_lt hc hcl _)
  rw [hn, anN_bit _ _ _ hall hr, allV_bit N w ok.le, decide_eq_true_eq]
  refine and_congr_right (fun hw => ?_)
  rw [← Bool.not_eq_true, reach_dual h0 hl, reach_iff h0 hl]
  constructor
  · intro h K hK hb
    exact h ⟨K, hK, (one_meets w _).2 hb⟩
  · rintro h ⟨K, hK, h2⟩
    exact h K hK ((one_meets w _).1 h2)
/-- the relation of a group of one agent -/
theorem gorK_one (rel : List (List Nat)) (k w : Nat) : ∀ j, gorK rel (2 ^ k) w j = if k < j then (rel.getD k []).getD w 0 else 0
  | 0 => rfl
  | j + 1 => by
    have ih := gorK_one rel k w j
    unfold gorK
    rw [Nat.testBit_two_pow, ih]
    by_cases h : k = j
    · subst h
      simp
    · rw [decide_eq_false h, if_neg (by decide : ¬ false = true)]
      by_cases h2 : k < j
      · rw [if_pos h2, if_pos (show k < j + 1 by omega)]
      · rw [if_neg h2, if_neg (show ¬ k < j + 1 by omega)]
theorem grp_one {m : Mo} {N : Nat} (hz : chkM m = 0) (ok : OkM N m) {k : Nat} (hk : k < m.rel.length) {v : Nat} (hv : v < N) (hg : 1 ≤ ((2 ^ k : Nat) : Int) ∧ ((2 ^ k : Nat) : Int) < 2 ^ m.rel.length) : (groupL m ((2 ^ k : Nat) : Int)).getD v 0 = (m.rel.getD k []).getD v 0 := by
  have hG : isG m ((2 ^ k : Nat) : Int) = true := by
    unfold isG
    rw [decide_eq_true hz, decide_eq_true hg.1, decide_eq_true hg.2]
    rfl
  have hNn : m.n.toNat = N := by rw [ok.num]; rfl
  unfold groupL
  rw [if_pos hG, hNn, List.getD_eq_getElem?_getD, List.getElem?_map, List.getElem?_range hv]
  show gorK m.rel (2 ^ k) v m.rel.length = _
  rw [gorK_one, if_pos hk]
theorem pow_group {m : Mo} {k : Nat} (hk : k < m.rel.length) : 1 ≤ ((2 ^ k : Nat) : Int) ∧ ((2 ^ k : Nat) : Int) < 2 ^ m.rel.length := by
  have h1 := Nat.two_pow_pos k
  have h2 : 2 ^ k < 2 ^ m.rel.length := Nat.pow_lt_pow_right (by decide) hk
  have e : ((2 : Int) ^ m.rel.length) = ((2 ^ m.rel.length : Nat) : Int) := by simp
  rw [e]
  omega
/-- the ends of the paths that are one longer -/
def stepL (R : List Nat) (x e : Nat) : Nat → Nat
  | 0 => 0
  | j + 1 => if e.testBit j then stepL R x e j ||| (R.getD j 0 &&& x) else stepL R x e j
theorem stepL_bit (R : List Nat) (x e u : Nat) : ∀ n, (stepL R x e n).testBit u = true ↔ ∃ v, v < n ∧ e.testBit v = true ∧ (R.getD v 0 &&& x).testBit u = true
  | 0 => by
    unfold stepL
    rw [Nat.zero_testBit]
    exact ⟨fun h => (by cases h), fun ⟨v, h, _⟩ => absurd h (Nat.not_lt_zero v)⟩
  | j + 1 => by
    have ih := stepL_bit R x e u j
    unfold stepL
    split
    · rename_i hb
      rw [Nat.testBit_or, Bool.or_eq_true, ih]
      constructor
      · rintro (⟨v, h1, h2⟩ | h)
        · exact ⟨v, by omega, h2⟩
        · exact ⟨j, by omega, hb, h⟩
      · rintro ⟨v, h1, h2, h3⟩
        by_cases hv : v < j
        · exact .inl ⟨v, hv, h2, h3⟩
        · obtain rfl : v = j := by omega
          exact .inr h3
    · rename_i hb
      rw [ih]
      constructor
      · rintro ⟨v, h1, h2⟩
        exact ⟨v, by omega, h2⟩
      · rintro ⟨v, h1, h2, h3⟩
        by_cases hv : v < j
        · exact ⟨v, hv, h2, h3⟩
        · obtain rfl : v = j := by omega
          exact absurd h2 hb
theorem stepL_lt (R : List Nat) (x e : Nat) (hx : x < 18446744073709551616) : ∀ n, stepL R x e n < 18446744073709551616
  | 0 => by unfold stepL; decide
  | j + 1 => by
    have ih := stepL_lt R x e hx j
    unfold stepL
    split
    · exact Nat.or_lt_two_pow (n := 64) ih (Nat.lt_of_le_of_lt Nat.and_le_right hx)
    · exact ih
theorem stepL_dia {T R : List Nat} {n x : Nat} (h0 : relErr n T = 0) (hl : T.length = n) (hT : ∀ v, v < n → T.getD v 0 = R.getD v 0 &&& x) (e : Nat) : stepL R x e n = dia (convV T) e := by
  have hc := conv_err h0 hl
  have hcl : (convV T).length = n := by rw [conv_len, hl]
  apply Nat.eq_of_testBit_eq
  intro u
  rw [Bool.eq_iff_iff, stepL_bit, dia_iff hc hcl]
  constructor
  · rintro ⟨v, h1, h2, h3⟩
    exact ⟨v, (conv_bit h0 hl u v).2 (by unfold bit; rw [hT v h1]; exact h3), h2⟩
  · rintro ⟨v, h1, h2⟩
    have h3 := (conv_bit h0 hl u v).1 h1
    have hv := (bit_in (rel_sh h0 hl) h3).1
    refine ⟨v, hv, h2, ?_⟩
    unfold bit at h3
    rwa [hT v hv] at h3
/-- the ends of the paths of k steps from w -/
def endL (R : List Nat) (x w n : Nat) : Nat → Nat
  | 0 => 2 ^ w
  | k + 1 => stepL R x (endL R x w n k) n
/-- some path of 1 .. k steps ends outside y -/
def badL (R : List Nat) (x y w n : Nat) : Nat → Bool
  | 0 => false
  | k + 1 => badL R x y w n k || (anN (endL R x w n (k + 1)) y != 0)
theorem endL_lvl {T R : List Nat} {n x : Nat} (h0 : relErr n T = 0) (hl : T.length = n) (hT : ∀ v, v < n → T.getD v 0 = R.getD v 0 &&& x) (w : Nat) : ∀ k, endL R x w n k = lvl (convV T) (2 ^ w) k
  | 0 => rfl
  | k + 1 => by
    show stepL R x (endL R x w n k) n = dia (convV T) (lvl (convV T) (2 ^ w) k)
    rw [endL_lvl h0 hl hT w k, stepL_dia h0 hl hT]
theorem endL_lt (R : List Nat) (x w n : Nat) (hw : w < 64) (hx : x < 18446744073709551616) : ∀ k, endL R x w n k < 18446744073709551616
  | 0 => (show 2 ^ w < 2 ^ 64 from Nat.pow_lt_pow_right (by decide) hw)
  | k + 1 => stepL_lt R x _ hx n
theorem badL_iff (R : List Nat) (x y w n : Nat) : ∀ k, badL R x y w n k = true ↔ ∃ j, j < k ∧ anN (endL R x w n (j + 1)) y ≠ 0
  | 0 => ⟨fun h => (by cases h), fun ⟨j, h, _⟩ => absurd h (Nat.not_lt_zero j)⟩
  | k + 1 => by
    have ih := badL_iff R x y w n k
    show (badL R x y w n k || (anN (endL R x w n (k + 1)) y != 0)) = true ↔ _
    rw [Bool.or_eq_true, ih, bne_iff_ne]
    constructor
    · rintro (⟨j, h1, h2⟩ | h)
      · exact ⟨j, by omega, h2⟩
      · exact ⟨k, by omega, h⟩
    · rintro ⟨j, h1, h2⟩
      by_cases hj : j < k
      · exact .inl ⟨j, hj, h2⟩
      · obtain rfl : j = k := by omega
        exact .inr h2
theorem bad_com {m : Mo} {N : Nat} (hz : chkM m = 0) (ok : OkM N m) {k : Nat} (hk : k < m.rel.length) (x y : Nat) (hy : y < 18446744073709551616) {w : Nat} (hw : w < N) :
    badL (m.rel.getD k []) x y w N N = !(comV m ((2 ^ k : Nat) : Int) x y).testBit w := by
  have hg := pow_group hk
  have hcb := com_bit hz ok hg x y w
  have hs := sh_and (grp_sh hz ok hg).1 x
  have h0 := sh_errQ ok.le hs
  have hl := hs.1
  have hT : ∀ v, v < N → ((groupL m ((2 ^ k : Nat) : Int)).map (· &&& x)).getD v 0 = (m.rel.getD k []).getD v 0 &&& x := fun v hv => by
    rw [mapand_getD, grp_one hz ok hk hv hg]
  generalize (groupL m ((2 ^ k : Nat) : Int)).map (· &&& x) = T at *
  generalize m.rel.getD k [] = R at *
  have hall : allV N < 18446744073709551616 := allV_lt _
  have key : ∀ j, anN (endL R x w N (j + 1)) y ≠ 0 ↔ (lvl T (anN (allV N) y) (j + 1)).testBit w = true := fun j => by
    rw [← one_meets, lvl_dual h0 hl, ← endL_lvl h0 hl hT]
    show endL R x w N (j + 1) &&& (18446744073709551615 - y) ≠ 0 ↔ _
    rw [meets_iff, meets_iff]
    have hin : ∀ v, (endL R x w N (j + 1)).testBit v = true → v < N := fun v hv => by
      obtain ⟨u, h1, _, h3⟩ := (stepL_bit R x _ v N).1 hv
      exact (bit_in (rel_sh h0 hl) (w := u) (v := v) (by unfold bit; rw [hT u h1]; exact h3)).2
    have hn64 := ok.le
    refine exists_congr (fun v => and_congr_right (fun hv => ?_))
    have hvN := hin v hv
    rw [not_bit y v hy, anN_bit _ _ _ hall hy, allV_bit N v ok.le, decide_eq_true hvN, decide_eq_true (show v < 64 by omega)]
    simp
  rw [Bool.eq_iff_iff, badL_iff, Bool.not_eq_true', ← Bool.not_eq_true, hcb]
  constructor
  · rintro ⟨j, hj, h⟩ ⟨_, h2⟩
    exact h2 j hj ((key j).1 h)
  · intro h
    apply Classical.byContradiction
    intro hno
    exact h ⟨hw, fun K hK hb => hno ⟨K, hK, (key K).2 hb⟩⟩
theorem bit_test (x k : Nat) (hx : x < 18446744073709551616) : (bits .and .u64 ((x : Int) / 2 ^ k) 1 == 1) = x.testBit k := by
  have h1 : x / 2 ^ k < 18446744073709551616 := Nat.lt_of_le_of_lt (Nat.div_le_self _ _) hx
  have h2 := u64_and_nat (x / 2 ^ k) 1 h1 (by decide)
  have e : ((x : Int) / 2 ^ k) = ((x / 2 ^ k : Nat) : Int) := by simp
  rw [e, show (1 : Int) = ((1 : Nat) : Int) from rfl, h2, Nat.testBit_eq_decide_div_mod_eq, Nat.and_one_is_mod, Bool.eq_iff_iff, beq_iff_eq, decide_eq_true_eq]
  omega
theorem out_test (x y : Nat) (hx : x < 18446744073709551616) (hy : y < 18446744073709551616) : (bits .andNot .u64 (x : Int) (y : Int) != 0) = (anN x y != 0) := by
  rw [u64_andNot_nat x y hx hy]
  show (((anN x y : Nat) : Int) != 0) = _
  rw [Bool.eq_iff_iff, bne_iff_ne, bne_iff_ne]
  omega
theorem wrap64_pow : ∀ r, r ≤ 3 → wrap64 ((2 : Int) ^ r) = ((2 ^ r : Nat) : Int)
  | 0, _ => by decide +kernel
  | 1, _ => by decide +kernel
  | 2, _ => by decide +kernel
  | 3, _ => by decide +kernel
  | r + 4, h => absurd h (by omega)
end Go.Proofs.YtjpmhbnikoggaaaDoor
