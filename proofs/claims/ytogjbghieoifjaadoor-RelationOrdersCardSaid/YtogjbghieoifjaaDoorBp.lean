/- Mathematics of paths: the points from which so many steps lead to a set, the walk down, the first hit. -/
import Derived.Test.YtogjbghieoifjaaDoorBe
namespace Go.Proofs.YtogjbghieoifjaaDoor
open Go.RowKit Go.Proofs.Ws
/-- the points with a successor in a set -/
def dia (R : List Nat) (s : Nat) : Nat := whV (pDia s) R
theorem whU_bit (p : Nat → Bool) (R : List Nat) (w : Nat) : ∀ n, (whU p R n).testBit w = true ↔ w < n ∧ p (R.getD w 0) = true
  | 0 => by simp [whU]
  | n + 1 => by
    rw [whU_succ]
    split
    · rename_i h
      rw [Nat.testBit_or, Bool.or_eq_true, whU_bit p R w n, p2_bit, decide_eq_true_eq]
      constructor
      · rintro (⟨h1, h2⟩ | rfl)
        · exact ⟨by omega, h2⟩
        · exact ⟨by omega, h⟩
      · rintro ⟨h1, h2⟩
        by_cases e : n = w
        · exact .inr e
        · exact .inl ⟨by omega, h2⟩
    · rename_i h
      rw [whU_bit p R w n]
      constructor
      · rintro ⟨h1, h2⟩; exact ⟨by omega, h2⟩
      · rintro ⟨h1, h2⟩
        by_cases e : w = n
        · subst e; exact absurd h2 h
        · exact ⟨by omega, h2⟩
theorem dia_bit {R : List Nat} {n : Nat} (h0 : relErr n R = 0) (hl : R.length = n) (s w : Nat) : (dia R s).testBit w = true ↔ w < n ∧ R.getD w 0 &&& s ≠ 0 := by
  unfold dia whV
  rw [hl, if_pos h0, whU_bit]
  unfold pDia
  rw [decide_eq_true_eq]
theorem lt_of_bits {x n : Nat} (h : ∀ v, x.testBit v = true → v < n) : x < 2 ^ n := by
  apply Nat.lt_pow_two_of_testBit
  intro v hv
  cases hx : x.testBit v
  · rfl
  · have := h v hx; omega
theorem dia_lt {R : List Nat} {n : Nat} (h0 : relErr n R = 0) (hl : R.length = n) (s : Nat) : dia R s < 2 ^ n :=
  lt_of_bits fun _ hv => ((dia_bit h0 hl s _).1 hv).1
theorem and_allV {x n : Nat} (hn : n ≤ 64) (h : x < 2 ^ n) : x &&& allV n = x := by
  rw [allV_nat n hn]
  apply Nat.eq_of_testBit_eq
  intro v
  rw [Nat.testBit_and, Nat.testBit_two_pow_sub_one]
  cases hx : x.testBit v
  · rfl
  · have : v < n := by
      apply Classical.byContradiction
      intro hv
      rw [Nat.testBit_lt_two_pow (Nat.lt_of_lt_of_le h (Nat.pow_le_pow_right (by decide) (by omega)))] at hx
      cases hx
    simp [this]
/-- what is cut to the points does not matter -/
theorem and_all_r {x s n : Nat} (hn : n ≤ 64) (h : x < 2 ^ n) : x &&& (s &&& allV n) = x &&& s := by
  rw [Nat.and_comm s, ← Nat.and_assoc, and_allV hn h]
theorem dia_all {R : List Nat} {n : Nat} (h0 : relErr n R = 0) (hl : R.length = n) (s : Nat) : dia R (s &&& allV n) = dia R s := by
  apply Nat.eq_of_testBit_eq
  intro w
  rw [Bool.eq_iff_iff, dia_bit h0 hl, dia_bit h0 hl, and_all_r (relErr_zero h0) (sh_getD ⟨hl, relErr_rows h0⟩ w)]
/-- the points from which so many steps lead to a set -/
def lvl (R : List Nat) (s : Nat) : Nat → Nat
  | 0 => s
  | k + 1 => dia R (lvl R s k)
theorem lvl_all {R : List Nat} {n : Nat} (h0 : relErr n R = 0) (hl : R.length = n) (s : Nat) : ∀ k, lvl R (s &&& allV n) (k + 1) = lvl R s (k + 1)
  | 0 => dia_all h0 hl s
  | k + 1 => by show dia R (lvl R (s &&& allV n) (k + 1)) = dia R (lvl R s (k + 1)); rw [lvl_all h0 hl s k]
theorem lvl_lt {R : List Nat} {n : Nat} (h0 : relErr n R = 0) (hl : R.length = n) (s : Nat) (k : Nat) : lvl R s (k + 1) < 2 ^ n := dia_lt h0 hl _
theorem lvl_64 {R : List Nat} {n : Nat} (h0 : relErr n R = 0) (hl : R.length = n) {s : Nat} (hs : s < 18446744073709551616) : ∀ k, lvl R s k < 18446744073709551616
  | 0 => hs
  | k + 1 => pow64 (relErr_zero h0) (lvl_lt h0 hl s k)
def lvls (R : List Nat) (s m : Nat) : List Nat := (List.range m).map (lvl R s)
theorem lvls_len (R : List Nat) (s m : Nat) : (lvls R s m).length = m := by simp [lvls]
theorem lvls_succ (R : List Nat) (s m : Nat) : lvls R s (m + 1) = lvls R s m ++ [lvl R s m] := by simp [lvls, List.range_succ]
theorem lvls_getD (R : List Nat) (s m k : Nat) (h : k < m) : (lvls R s m).getD k 0 = lvl R s k := by
  unfold lvls; rw [List.getD_eq_getElem?_getD, List.getElem?_map, List.getElem?_range h]; rfl
/-- the walk down from a level: the lowest point that can still arrive -/
def down (R : List Nat) (f : Nat → Nat) : Nat → Nat → List Nat
  | 0, _ => []
  | c + 1, x => low (x &&& f c) :: down R f c (R.getD (low (x &&& f c)) 0)
theorem down_len (R : List Nat) (f : Nat → Nat) : ∀ c x, (down R f c x).length = c
  | 0, _ => rfl
  | c + 1, x => by rw [down, List.length_cons, down_len R f c]
/-- a state of the walk: c levels are left, x is what the next point is taken from -/
structure OnWay (R : List Nat) (n : Nat) (s K c x : Nat) : Prop where
  le : c ≤ K + 2
  lt : x < 18446744073709551616
  hit : 0 < c → x &&& lvl R s (c - 1) ≠ 0
  row : c ≤ K + 1 → x < 2 ^ n
theorem OnWay.start {R : List Nat} {n s K x : Nat} (hx : x < 18446744073709551616) (h : x &&& lvl R s (K + 1) ≠ 0) : OnWay R n s K (K + 2) x :=
  ⟨Nat.le_refl _, hx, fun _ => h, fun h => absurd h (by omega)⟩
theorem low_in {y : Nat} (h0 : y ≠ 0) (h : y < 18446744073709551616) : y.testBit (low y) = true ∧ low y < 64 := by
  refine ⟨testBit_low y h0 h, ?_⟩
  obtain ⟨_, _, h2⟩ := low_form y h0 h
  exact h2
section
variable {R : List Nat} {n s K c x : Nat}
theorem OnWay.point (h0 : relErr n R = 0) (hl : R.length = n) (h : OnWay R n s K (c + 1) x) : low (x &&& lvl R s c) < n ∧ x.testBit (low (x &&& lvl R s c)) = true ∧ (lvl R s c).testBit (low (x &&& lvl R s c)) = true := by
  have hne := h.hit (by omega)
  rw [Nat.add_sub_cancel] at hne
  have hb := low_in hne (Nat.lt_of_le_of_lt Nat.and_le_left h.lt)
  rw [Nat.testBit_and, Bool.and_eq_true] at hb
  refine ⟨?_, hb.1.1, hb.1.2⟩
  cases c with
  | succ c =>
    have : (dia R (lvl R s c)).testBit (low (x &&& lvl R s (c + 1))) = true := hb.1.2
    exact ((dia_bit h0 hl _ _).1 this).1
  | zero =>
    have hx := h.row (by omega)
    apply Classical.byContradiction
    intro hn
    have h1 := hb.1.1
    rw [Nat.testBit_lt_two_pow (Nat.lt_of_lt_of_le hx (Nat.pow_le_pow_right (by decide) (by omega)))] at h1
    cases h1
theorem OnWay.next (h0 : relErr n R = 0) (hl : R.length = n) (h : OnWay R n s K (c + 1) x) : OnWay R n s K c (R.getD (low (x &&& lvl R s c)) 0) where
  le := by have := h.le; omega
  lt := pow64 (relErr_zero h0) (sh_getD ⟨hl, relErr_rows h0⟩ _)
  hit := fun hc => by
    obtain ⟨c, rfl⟩ : ∃ c', c = c' + 1 := ⟨c - 1, by omega⟩
    exact ((dia_bit h0 hl _ _).1 (h.point h0 hl).2.2).2
  row := fun _ => sh_getD ⟨hl, relErr_rows h0⟩ _
theorem OnWay.small (h0 : relErr n R = 0) (hl : R.length = n) (h : OnWay R n s K (c + 1) x) : low (x &&& lvl R s c) < 64 := by
  have := (h.point h0 hl).1
  have := relErr_zero h0
  omega
end
theorem down_all {R : List Nat} {n s K : Nat} (h0 : relErr n R = 0) (hl : R.length = n) : ∀ c x, OnWay R n s K c x → down R (lvl R (s &&& allV n)) c x = down R (lvl R s) c x
  | 0, _, _ => rfl
  | c + 1, x, h => by
    have e : x &&& lvl R (s &&& allV n) c = x &&& lvl R s c := by
      cases c with
      | zero => exact and_all_r (relErr_zero h0) (h.row (by omega))
      | succ c => rw [lvl_all h0 hl]
    rw [down, down, e, down_all h0 hl c _ (h.next h0 hl)]
theorem down_and (R : List Nat) (f : Nat → Nat) (c x : Nat) : down R f (c + 1) (x &&& f c) = down R f (c + 1) x := by
  rw [down, down, Nat.and_assoc, Nat.and_self]
/-- the path, by its definition -/
def PathIs (R : List Nat) (n frm s : Nat) (p : List Nat) : Prop :=
  (relErr n R ≠ 0 ∧ p = []) ∨ (relErr n R = 0 ∧ (∀ j, j < n → frm &&& lvl R s (j + 1) = 0) ∧ p = []) ∨
  (relErr n R = 0 ∧ ∃ K, K < n ∧ (∀ j, j < K → frm &&& lvl R s (j + 1) = 0) ∧ frm &&& lvl R s (K + 1) ≠ 0 ∧ p = down R (lvl R s) (K + 2) frm)
theorem PathIs.unique {R : List Nat} {n frm s : Nat} {p q : List Nat} (h : PathIs R n frm s p) (k : PathIs R n frm s q) : p = q := by
  rcases h with ⟨h0, rfl⟩ | ⟨h0, h1, rfl⟩ | ⟨h0, K, hK, h1, h2, rfl⟩
  · rcases k with ⟨_, rfl⟩ | ⟨k0, _⟩ | ⟨k0, _⟩
    · rfl
    · exact absurd k0 h0
    · exact absurd k0 h0
  · rcases k with ⟨_, rfl⟩ | ⟨_, _, rfl⟩ | ⟨_, K, hK, _, k2, _⟩
    · rfl
    · rfl
    · exact absurd (h1 K hK) k2
  · rcases k with ⟨k0, _⟩ | ⟨_, k1, _⟩ | ⟨_, K', hK', k1, k2, rfl⟩
    · exact absurd h0 k0
    · exact absurd (k1 K hK) h2
    · have : K = K' := by
        rcases Nat.lt_trichotomy K K' with h | h | h
        · exact absurd (k1 K h) h2
        · exact h
        · exact absurd (h1 K' h) k2
      rw [this]
end Go.Proofs.YtogjbghieoifjaaDoor
