/- Layer 6: texts joined: Cy Cz. -/
import Derived.Test.YtjpmhbnikoggaaaDoorNLx
/- Layer 17 as mathematics: common knowledge as the greatest fixed point. -/
namespace Go.Proofs.YtjpmhbnikoggaaaDoor
open Go.RowKit Go.Proofs.Ws
set_option maxRecDepth 100000
theorem reach_closed {T : List Nat} {n : Nat} (h0 : relErr n T = 0) (hl : T.length = n) {s u v : Nat} (h : (reachV T s).testBit u = true) (hb : bit T u v = true) : (reachV T s).testBit v = true := by
  have hx : imgV T s < 2 ^ n := imgV_in (relErr_rows h0) s
  have hst := itR_stable (relErr_zero h0) (relErr_rows h0) n (imgV T s) hx (by omega)
  unfold reachV at h ⊢
  rw [hl, if_pos h0] at h ⊢
  rw [← hst, stepR_bit h0 hl]
  exact .inr ⟨u, h, hb⟩
theorem lvl_top {T : List Nat} {n : Nat} (h0 : relErr n T = 0) (hl : T.length = n) (hn : 1 ≤ n) {s w : Nat} (h : (lvl T s (n + 1)).testBit w = true) : ∃ K, K < n ∧ (lvl T s (K + 1)).testBit w = true := by
  have hc := conv_err h0 hl
  have hcl : (convV T).length = n := by rw [conv_len, hl]
  obtain ⟨u, h1, h2⟩ := (dia_iff h0 hl (lvl T s n) w).1 h
  have h3 : (reachV (convV T) s).testBit u = true := by
    rw [reach_dual h0 hl, reach_iff h0 hl]
    refine ⟨n - 1, by omega, (one_meets u _).2 ?_⟩
    rw [show n - 1 + 1 = n by omega]
    exact h2
  have h4 := reach_closed hc hcl h3 ((conv_bit h0 hl u w).2 h1)
  rw [reach_dual h0 hl, reach_iff h0 hl] at h4
  obtain ⟨K, hK, h5⟩ := h4
  exact ⟨K, hK, (one_meets w _).1 h5⟩
/-- whether all steps of the first a agents from w end in t -/
def insL (rel : List (List Nat)) (x t w : Nat) : Nat → Bool
  | 0 => true
  | a + 1 => insL rel x t w a && (anN ((rel.getD a []).getD w 0 &&& x) t == 0)
def nextL (rel : List (List Nat)) (x t L : Nat) : Nat → Nat
  | 0 => 0
  | w + 1 => if insL rel x t w L then nextL rel x t L w ||| p2 w else nextL rel x t L w
def fixL (rel : List (List Nat)) (x y L N al : Nat) : Nat → Nat
  | 0 => al
  | k + 1 => fixL rel x y L N al k &&& nextL rel x (y &&& fixL rel x y L N al k) L N
theorem anN_zero (a t : Nat) (ha : a < 18446744073709551616) (ht : t < 18446744073709551616) : anN a t = 0 ↔ ∀ v, a.testBit v = true → t.testBit v = true := by
  constructor
  · intro h v hv
    cases e : t.testBit v with
    | true => rfl
    | false =>
      have := (anN_bit a t v ha ht).2 ⟨hv, e⟩
      rw [h, Nat.zero_testBit] at this
      cases this
  · intro h
    apply Nat.eq_of_testBit_eq
    intro v
    rw [Nat.zero_testBit, ← Bool.not_eq_true, anN_bit a t v ha ht]
    rintro ⟨h1, h2⟩
    rw [h v h1] at h2
    cases h2
theorem insL_iff (rel : List (List Nat)) (x t w : Nat) (hx : x < 18446744073709551616) (ht : t < 18446744073709551616) : ∀ k, insL rel x t w k = true ↔ ∀ a, a < k → ∀ v, ((rel.getD a []).getD w 0 &&& x).testBit v = true → t.testBit v = true
  | 0 => ⟨fun _ a h => absurd h (Nat.not_lt_zero a), fun _ => rfl⟩
  | k + 1 => by
    have ih := insL_iff rel x t w hx ht k
    show (insL rel x t w k && (anN ((rel.getD k []).getD w 0 &&& x) t == 0)) = true ↔ _
    rw [Bool.and_eq_true, ih, beq_iff_eq, anN_zero _ _ (Nat.lt_of_le_of_lt Nat.and_le_right hx) ht]
    constructor
    · rintro ⟨h1, h2⟩ a ha
      by_cases h : a < k
      · exact h1 a h
      · obtain rfl : a = k := by omega
        exact h2
    · intro h
      exact ⟨fun a ha => h a (by omega), h k (by omega)⟩
theorem gorK_bits (rel : List (List Nat)) (g w v : Nat) : ∀ k, (gorK rel g w k).testBit v = true ↔ ∃ a, a < k ∧ g.testBit a = true ∧ ((rel.getD a []).getD w 0).testBit v = true
  | 0 => by
    unfold gorK
    rw [Nat.zero_testBit]
    exact ⟨fun h => (by cases h), fun ⟨a, h, _⟩ => absurd h (Nat.not_lt_zero a)⟩
  | k + 1 => by
    have ih := gorK_bits rel g w v k
    unfold gorK
    split
    · rename_i hb
      rw [Nat.testBit_or, Bool.or_eq_true, ih]
      constructor
      · rintro (⟨a, h1, h2⟩ | h)
        · exact ⟨a, by omega, h2⟩
        · exact ⟨k, by omega, hb, h⟩
      · rintro ⟨a, h1, h2, h3⟩
        by_cases hv : a < k
        · exact .inl ⟨a, hv, h2, h3⟩
        · obtain rfl : a = k := by omega
          exact .inr h3
    · rename_i hb
      rw [ih]
      constructor
      · rintro ⟨a, h1, h2⟩
        exact ⟨a, by omega, h2⟩
      · rintro ⟨a, h1, h2, h3⟩
        by_cases hv : a < k
        · exact ⟨a, hv, h2, h3⟩
        · obtain rfl : a = k := by omega
          exact absurd h2 hb
theorem nextL_bit (rel : List (List Nat)) (x t L v : Nat) : ∀ n, (nextL rel x t L n).testBit v = true ↔ v < n ∧ insL rel x t v L = true
  | 0 => by
    unfold nextL
    rw [Nat.zero_testBit]
    exact ⟨fun h => (by cases h), fun h => absurd h.1 (Nat.not_lt_zero v)⟩
  | w + 1 => by
    have ih := nextL_bit rel x t L v w
    unfold nextL
    split
    · rename_i hb
      rw [Nat.testBit_or, Bool.or_eq_true, ih, show p2 w = 2 ^ w from rfl, Nat.testBit_two_pow, decide_eq_true_eq]
      constructor
      · rintro (⟨h1, h2⟩ | rfl)
        · exact ⟨by omega, h2⟩
        · exact ⟨by omega, hb⟩
      · rintro ⟨h1, h2⟩
        by_cases h : v < w
        · exact .inl ⟨h, h2⟩
        · exact .inr (by omega)
    · rename_i hb
      rw [ih]
      constructor
      · rintro ⟨h1, h2⟩
        exact ⟨by omega, h2⟩
      · rintro ⟨h1, h2⟩
        by_cases h : v < w
        · exact ⟨h, h2⟩
        · obtain rfl : v = w := by omega
          exact absurd h2 hb
theorem all_group {m : Mo} (h : 1 ≤ m.rel.length) : 1 ≤ ((2 ^ m.rel.length - 1 : Nat) : Int) ∧ ((2 ^ m.rel.length - 1 : Nat) : Int) < 2 ^ m.rel.length := by
  have h1 : 2 ^ 1 ≤ 2 ^ m.rel.length := Nat.pow_le_pow_right (by decide) h
  have e : ((2 : Int) ^ m.rel.length) = ((2 ^ m.rel.length : Nat) : Int) := by simp
  rw [e]
  omega
theorem grp_all {m : Mo} {N : Nat} (hz : chkM m = 0) (ok : OkM N m) (hg : 1 ≤ ((2 ^ m.rel.length - 1 : Nat) : Int) ∧ ((2 ^ m.rel.length - 1 : Nat) : Int) < 2 ^ m.rel.length) {w : Nat} (hw : w < N) (v : Nat) : bit (groupL m ((2 ^ m.rel.length - 1 : Nat) : Int)) w v = true ↔ ∃ a, a < m.rel.length ∧ ((m.rel.getD a []).getD w 0).testBit v = true := by
  have hG : isG m ((2 ^ m.rel.length - 1 : Nat) : Int) = true := by
    unfold isG
    rw [decide_eq_true hz, decide_eq_true hg.1, decide_eq_true hg.2]
    rfl
  have hNn : m.n.toNat = N := by rw [ok.num]; rfl
  unfold bit groupL
  rw [if_pos hG, hNn, List.getD_eq_getElem?_getD, List.getElem?_map, List.getElem?_range hw]
  show (gorK m.rel (2 ^ m.rel.length - 1) w m.rel.length).testBit v = true ↔ _
  rw [gorK_bits]
  refine exists_congr (fun a => and_congr_right (fun ha => ?_))
  rw [Nat.testBit_two_pow_sub_one, decide_eq_true ha]
  simp
theorem fix_com {m : Mo} {N : Nat} (hz : chkM m = 0) (ok : OkM N m) (h1 : 1 ≤ m.rel.length) (x y : Nat) (hx : x < 18446744073709551616) (hy : y < 18446744073709551616) :
    fixL m.rel x y m.rel.length N (allV (N : Int)) (N + 1) = comV m ((2 ^ m.rel.length - 1 : Nat) : Int) x y := by
  have hg := all_group h1
  have hall : allV N < 18446744073709551616 := allV_lt _
  have hcb := com_bit hz ok hg x y
  have hs := sh_and (grp_sh hz ok hg).1 x
  have h0 := sh_errQ ok.le hs
  have hl := hs.1
  have hT : ∀ w v, w < N → (bit ((groupL m ((2 ^ m.rel.length - 1 : Nat) : Int)).map (· &&& x)) w v = true ↔ ∃ a, a < m.rel.length ∧ ((m.rel.getD a []).getD w 0 &&& x).testBit v = true) := fun w v hw => by
    have e := grp_all hz ok hg hw v
    unfold bit at e ⊢
    rw [mapand_getD, Nat.testBit_and, Bool.and_eq_true, e]
    constructor
    · rintro ⟨⟨a, ha, h⟩, h2⟩
      exact ⟨a, ha, by rw [Nat.testBit_and, h, h2]; rfl⟩
    · rintro ⟨a, ha, h⟩
      rw [Nat.testBit_and, Bool.and_eq_true] at h
      exact ⟨⟨a, ha, h.1⟩, h.2⟩
  generalize (groupL m ((2 ^ m.rel.length - 1 : Nat) : Int)).map (· &&& x) = T at *
  generalize comV m ((2 ^ m.rel.length - 1 : Nat) : Int) x y = C at *
  have hN1 := ok.pos
  have hle := ok.le
  have hbad : ∀ v, (anN (allV N) y).testBit v = true ↔ v < N ∧ y.testBit v = false := fun v => by
    rw [anN_bit _ _ _ hall hy, allV_bit N v hle, decide_eq_true_eq]
  have key : ∀ k, fixL m.rel x y m.rel.length N (allV (N : Int)) k < 18446744073709551616 ∧ ∀ w, (fixL m.rel x y m.rel.length N (allV (N : Int)) k).testBit w = true ↔ w < N ∧ ∀ K, K < k → ¬ (lvl T (anN (allV N) y) (K + 1)).testBit w = true := by
    intro k
    induction k with
    | zero =>
      refine ⟨hall, fun w => ?_⟩
      show (allV (N : Int)).testBit w = true ↔ _
      rw [allV_bit N w hle, decide_eq_true_eq]
      exact ⟨fun h => ⟨h, fun K hK => absurd hK (Nat.not_lt_zero K)⟩, fun h => h.1⟩
    | succ k ih =>
      obtain ⟨ihl, ih⟩ := ih
      generalize hf : fixL m.rel x y m.rel.length N (allV (N : Int)) k = f at *
      have hfe : fixL m.rel x y m.rel.length N (allV (N : Int)) (k + 1) = f &&& nextL m.rel x (y &&& f) m.rel.length N := by rw [← hf]; rfl
      rw [hfe]
      refine ⟨Nat.lt_of_le_of_lt Nat.and_le_left ihl, fun w => ?_⟩
      rw [Nat.testBit_and, Bool.and_eq_true, nextL_bit, insL_iff _ _ _ _ hx (Nat.lt_of_le_of_lt Nat.and_le_left hy), ih]
      constructor
      · rintro ⟨⟨hw, h2⟩, _, h3⟩
        refine ⟨hw, fun K hK hb => ?_⟩
        obtain ⟨v, h4, h5⟩ := (dia_iff h0 hl _ w).1 (show (dia T (lvl T (anN (allV N) y) K)).testBit w = true from hb)
        obtain ⟨a, ha, h6⟩ := (hT w v hw).1 h4
        have h7 := h3 a ha v h6
        rw [Nat.testBit_and, Bool.and_eq_true, ih] at h7
        cases K with
        | zero =>
          have h8 := (hbad v).1 h5
          rw [h7.1] at h8
          cases h8.2
        | succ K => exact h7.2.2 K (by omega) h5
      · rintro ⟨hw, h2⟩
        refine ⟨⟨hw, fun K hK => h2 K (by omega)⟩, hw, fun a ha v h6 => ?_⟩
        have h4 := (hT w v hw).2 ⟨a, ha, h6⟩
        have hv : v < N := (bit_in (rel_sh h0 hl) h4).2
        rw [Nat.testBit_and, Bool.and_eq_true, ih]
        refine ⟨?_, hv, fun K hK hb => h2 (K + 1) (by omega) ((dia_iff h0 hl _ w).2 ⟨v, h4, hb⟩)⟩
        cases e : y.testBit v with
        | true => rfl
        | false => exact absurd ((dia_iff h0 hl _ w).2 ⟨v, h4, (hbad v).2 ⟨hv, e⟩⟩) (h2 0 (by omega))
  apply Nat.eq_of_testBit_eq
  intro w
  rw [Bool.eq_iff_iff, (key (N + 1)).2 w, hcb w]
  refine and_congr_right (fun hw => ⟨fun h K hK => h K (by omega), fun h K hK hb => ?_⟩)
  by_cases hK2 : K < N
  · exact h K hK2 hb
  · obtain rfl : K = N := by omega
    obtain ⟨K, h3, h4⟩ := lvl_top h0 hl hN1 hb
    exact h K h3 h4
end Go.Proofs.YtjpmhbnikoggaaaDoor
/- Layer 17: what the walk of CheckerFixpoint needs. -/
namespace Go.Proofs.YtjpmhbnikoggaaaDoor
open Go.RowKit Go.Proofs.Ws
set_option maxRecDepth 100000
theorem wrap64_all : ∀ r, r ≤ 4 → wrap64 (wrap64 ((2 : Int) ^ r) - 1) = ((2 ^ r - 1 : Nat) : Int)
  | 0, _ => by decide +kernel
  | 1, _ => by decide +kernel
  | 2, _ => by decide +kernel
  | 3, _ => by decide +kernel
  | 4, _ => by decide +kernel
  | r + 5, h => absurd h (by omega)
theorem fixL_lt (rel : List (List Nat)) (x y L N al : Nat) (h : al < 18446744073709551616) : ∀ k, fixL rel x y L N al k < 18446744073709551616
  | 0 => h
  | k + 1 => Nat.lt_of_le_of_lt Nat.and_le_left (fixL_lt rel x y L N al h k)
theorem nextL_lt (rel : List (List Nat)) (x t L : Nat) : ∀ n, n ≤ 64 → nextL rel x t L n < 18446744073709551616
  | 0, _ => by unfold nextL; decide
  | n + 1, h => by
    have ih := nextL_lt rel x t L n (by omega)
    unfold nextL
    split
    · exact Nat.or_lt_two_pow (n := 64) ih (show 2 ^ n < 2 ^ 64 from Nat.pow_lt_pow_right (by decide) (by omega))
    · exact ih
theorem ins_test (a x y s : Nat) (ha : a < 18446744073709551616) (hx : x < 18446744073709551616) (hy : y < 18446744073709551616) (hs : s < 18446744073709551616) :
    bits .and .u64 (a : Int) (x : Int) = ((a &&& x : Nat) : Int) ∧ bits .and .u64 (y : Int) (s : Int) = ((y &&& s : Nat) : Int) ∧ (bits .andNot .u64 ((a &&& x : Nat) : Int) ((y &&& s : Nat) : Int) == 0) = (anN (a &&& x) (y &&& s) == 0) := by
  have h1 : a &&& x < 18446744073709551616 := Nat.lt_of_le_of_lt Nat.and_le_left ha
  have h2 : y &&& s < 18446744073709551616 := Nat.lt_of_le_of_lt Nat.and_le_left hy
  refine ⟨u64_and_nat a x ha hx, u64_and_nat y s hy hs, ?_⟩
  rw [u64_andNot_nat _ _ h1 h2]
  show (((anN (a &&& x) (y &&& s) : Nat) : Int) == 0) = _
  rw [Bool.eq_iff_iff, beq_iff_eq, beq_iff_eq]
  omega
end Go.Proofs.YtjpmhbnikoggaaaDoor
