/- Mathematics for the laws of layer 2: duality of box and diamond, composition, paths and what is reached. -/
import Derived.Test.YtogjbghieoifjaaDoorBp
namespace Go.Proofs.YtogjbghieoifjaaDoor
open Go.RowKit Go.Proofs.Ws
theorem not_bit (y v : Nat) (hy : y < 18446744073709551616) : (18446744073709551615 - y).testBit v = (decide (v < 64) && !y.testBit v) := by
  have := Nat.testBit_two_pow_sub_succ (n := 64) hy v
  rw [← this]
  congr 1
  omega
/-- contained -/
theorem sub_iff (x y : Nat) (hx : x < 18446744073709551616) (hy : y < 18446744073709551616) : x &&& (18446744073709551615 - y) = 0 ↔ ∀ v, x.testBit v = true → y.testBit v = true := by
  constructor
  · intro h v hv
    have : (x &&& (18446744073709551615 - y)).testBit v = false := by rw [h]; simp
    rw [Nat.testBit_and, hv, not_bit y v hy] at this
    have h64 : v < 64 := Classical.byContradiction fun hn => by rw [bit_ge x v hx (by omega)] at hv; cases hv
    simp [h64] at this
    exact this
  · intro h
    apply Nat.eq_of_testBit_eq
    intro v
    rw [Nat.testBit_and, not_bit y v hy, Nat.zero_testBit]
    cases hv : x.testBit v
    · rfl
    · rw [h v hv]; simp
theorem meets_iff (x y : Nat) : x &&& y ≠ 0 ↔ ∃ v, x.testBit v = true ∧ y.testBit v = true := by
  constructor
  · intro h
    apply Classical.byContradiction
    intro hn
    apply h
    apply Nat.eq_of_testBit_eq
    intro v
    rw [Nat.testBit_and, Nat.zero_testBit]
    cases hx : x.testBit v
    · rfl
    · cases hy : y.testBit v
      · rfl
      · exact absurd ⟨v, hx, hy⟩ hn
  · rintro ⟨v, hx, hy⟩ h
    have : (x &&& y).testBit v = false := by rw [h]; simp
    rw [Nat.testBit_and, hx, hy] at this
    cases this
def box (R : List Nat) (s : Nat) : Nat := whV (pBox s) R
section
variable {R : List Nat} {n : Nat} (h0 : relErr n R = 0) (hl : R.length = n)
include h0 hl
theorem rel_sh : Sh n R := ⟨hl, relErr_rows h0⟩
theorem box_bit (s w : Nat) (hs : s < 18446744073709551616) : (box R s).testBit w = true ↔ w < n ∧ ∀ v, bit R w v = true → s.testBit v = true := by
  unfold box whV
  rw [hl, if_pos h0, whU_bit]
  unfold pBox
  rw [decide_eq_true_eq, sub_iff _ _ (pow64 (relErr_zero h0) (sh_getD (rel_sh h0 hl) w)) hs]
  exact Iff.rfl
theorem dia_iff (s w : Nat) : (dia R s).testBit w = true ↔ ∃ v, bit R w v = true ∧ s.testBit v = true := by
  rw [dia_bit h0 hl, meets_iff]
  constructor
  · rintro ⟨_, h⟩; exact h
  · rintro ⟨v, h1, h2⟩; exact ⟨(bit_in (rel_sh h0 hl) h1).1, v, h1, h2⟩
theorem box_lt (s : Nat) (hs : s < 18446744073709551616) : box R s < 2 ^ n := lt_of_bits fun _ hv => ((box_bit h0 hl s _ hs).1 hv).1
end
theorem allV_bit (n v : Nat) (hn : n ≤ 64) : (allV n).testBit v = decide (v < n) := by
  rw [allV_nat n hn, Nat.testBit_two_pow_sub_one]
/-- box and diamond are dual -/
theorem box_dual {R : List Nat} {n : Nat} (h0 : relErr n R = 0) (hl : R.length = n) (s : Nat) (hs : s < 18446744073709551616) :
    box R s = allV n &&& (18446744073709551615 - dia R (allV n &&& (18446744073709551615 - s))) := by
  have hn := relErr_zero h0
  apply Nat.eq_of_testBit_eq
  intro w
  rw [Bool.eq_iff_iff, box_bit h0 hl s w hs, Nat.testBit_and, not_bit _ _ (pow64 hn (dia_lt h0 hl _)), allV_bit _ _ hn]
  simp only [Bool.and_eq_true, decide_eq_true_eq, Bool.not_eq_true']
  constructor
  · rintro ⟨hw, h⟩
    refine ⟨hw, by omega, ?_⟩
    cases hd : (dia R (allV n &&& (18446744073709551615 - s))).testBit w
    · rfl
    · obtain ⟨v, h1, h2⟩ := (dia_iff h0 hl _ _).1 hd
      rw [Nat.testBit_and, not_bit s v hs, h v h1] at h2
      simp at h2
  · rintro ⟨hw, _, h⟩
    refine ⟨hw, fun v hv => ?_⟩
    apply Classical.byContradiction
    intro hsv
    have hvn := (bit_in (rel_sh h0 hl) hv).2
    have : (dia R (allV n &&& (18446744073709551615 - s))).testBit w = true := (dia_iff h0 hl _ _).2 ⟨v, hv, by
      rw [Nat.testBit_and, not_bit s v hs, allV_bit _ _ hn]
      simp [hvn, show v < 64 by omega]
      simpa using hsv⟩
    rw [h] at this; cases this
theorem conv_err {R : List Nat} {n : Nat} (h0 : relErr n R = 0) (hl : R.length = n) : relErr n (convV R) = 0 := by
  subst hl
  have h2 := relErr_ok (l := convV R) (by rw [conv_len]; exact relErr_zero h0) (by rw [conv_len]; exact conv_in R)
  rwa [conv_len] at h2
theorem conv_bit {R : List Nat} {n : Nat} (h0 : relErr n R = 0) (hl : R.length = n) (a b : Nat) : bit (convV R) a b = true ↔ bit R b a = true := by
  rw [convV_bit]
  exact ⟨fun h => h.1, fun h => ⟨h, by rw [hl]; exact (bit_in (rel_sh h0 hl) h).2⟩⟩
/-- diamond of the converse is the other side of box -/
theorem box_conv {R : List Nat} {n : Nat} (h0 : relErr n R = 0) (hl : R.length = n) (s t : Nat) (hs : s < 2 ^ n) (ht : t < 18446744073709551616) :
    s &&& (18446744073709551615 - box R t) = 0 ↔ dia (convV R) s &&& (18446744073709551615 - t) = 0 := by
  have hn := relErr_zero h0
  have hc := conv_err h0 hl
  have hcl : (convV R).length = n := by rw [conv_len]; exact hl
  rw [sub_iff _ _ (pow64 hn hs) (pow64 hn (box_lt h0 hl t ht)), sub_iff _ _ (pow64 hn (dia_lt hc hcl s)) ht]
  constructor
  · intro h v hv
    obtain ⟨w, h1, h2⟩ := (dia_iff hc hcl _ _).1 hv
    exact ((box_bit h0 hl t w ht).1 (h w h2)).2 v ((conv_bit h0 hl v w).1 h1)
  · intro h w hw
    refine (box_bit h0 hl t w ht).2 ⟨?_, fun v hv => h v ((dia_iff hc hcl _ _).2 ⟨w, (conv_bit h0 hl v w).2 hv, hw⟩)⟩
    apply Classical.byContradiction
    intro hn'
    rw [Nat.testBit_lt_two_pow (Nat.lt_of_lt_of_le hs (Nat.pow_le_pow_right (by decide) (by omega)))] at hw
    cases hw
/-- composition -/
theorem compose_sh {R S : List Nat} {n : Nat} (hl : R.length = n) (hS : Sh n S) : Sh n (composeV R S) := by
  refine ⟨by simp [composeV, hl], fun x hx => ?_⟩
  unfold composeV at hx
  obtain ⟨k, _, rfl⟩ := List.mem_map.1 hx
  exact imgV_in hS.2 _
theorem compose_bit {R S : List Nat} {n : Nat} (_hR : Sh n R) (hS : Sh n S) (hn : n ≤ 64) (a b : Nat) : bit (composeV R S) a b = true ↔ ∃ u, bit R a u = true ∧ bit S u b = true := by
  by_cases ha : a < R.length
  · have e : bit (composeV R S) a b = (imgV S (R.getD a 0)).testBit b := by
      unfold bit composeV
      rw [List.getD_eq_getElem?_getD, List.getElem?_map, List.getElem?_range ha]; rfl
    rw [e, imgV_bit _ _ _ (by rw [hS.1]; exact hn)]
    exact Iff.rfl
  · constructor
    · intro h; have := bit_len h; unfold composeV at this; simp at this; exact absurd this ha
    · rintro ⟨u, h, _⟩; exact absurd (bit_len h) ha
theorem sh_err {R : List Nat} {n : Nat} (hn : n ≤ 64) (hR : Sh n R) : relErr n R = 0 := by
  have := relErr_ok (l := R) (by rw [hR.1]; exact hn) (by rw [hR.1]; exact hR.2)
  rwa [hR.1] at this
theorem bits_eq {n : Nat} {R S : List Nat} (hR : Sh n R) (hS : Sh n S) (h : ∀ a b, bit R a b = true ↔ bit S a b = true) : R = S :=
  Le.antisymm hR hS (fun a b => (h a b).1) (fun a b => (h a b).2)
theorem conv_sh' {R : List Nat} {n : Nat} (hR : Sh n R) : Sh n (convV R) := ⟨by rw [conv_len, hR.1], by rw [← hR.1]; exact conv_in R⟩
section
variable {R S T : List Nat} {n : Nat} (hn : n ≤ 64) (hR : Sh n R) (hS : Sh n S)
include hn hR hS
theorem compose_assoc (hT : Sh n T) : composeV (composeV R S) T = composeV R (composeV S T) := by
  refine bits_eq (compose_sh (compose_sh hR.1 hS).1 hT) (compose_sh hR.1 (compose_sh hS.1 hT)) (fun a b => ?_)
  rw [compose_bit (compose_sh hR.1 hS) hT hn, compose_bit hR (compose_sh hS.1 hT) hn]
  constructor
  · rintro ⟨u, h1, h2⟩
    obtain ⟨v, h3, h4⟩ := (compose_bit hR hS hn _ _).1 h1
    exact ⟨v, h3, (compose_bit hS hT hn _ _).2 ⟨u, h4, h2⟩⟩
  · rintro ⟨u, h1, h2⟩
    obtain ⟨v, h3, h4⟩ := (compose_bit hS hT hn _ _).1 h2
    exact ⟨v, (compose_bit hR hS hn _ _).2 ⟨u, h1, h3⟩, h4⟩
theorem compose_conv : convV (composeV R S) = composeV (convV S) (convV R) := by
  have hc := compose_sh hR.1 hS
  refine bits_eq (conv_sh' hc) (compose_sh (conv_sh' hS).1 (conv_sh' hR)) (fun a b => ?_)
  rw [conv_bit (sh_err hn hc) hc.1, compose_bit hR hS hn, compose_bit (conv_sh' hS) (conv_sh' hR) hn]
  constructor
  · rintro ⟨u, h1, h2⟩
    exact ⟨u, (conv_bit (sh_err hn hS) hS.1 _ _).2 h2, (conv_bit (sh_err hn hR) hR.1 _ _).2 h1⟩
  · rintro ⟨u, h1, h2⟩
    exact ⟨u, (conv_bit (sh_err hn hR) hR.1 _ _).1 h2, (conv_bit (sh_err hn hS) hS.1 _ _).1 h1⟩
theorem compose_dia (s : Nat) : dia (composeV R S) s = dia R (dia S s) := by
  have hc := compose_sh hR.1 hS
  apply Nat.eq_of_testBit_eq
  intro w
  rw [Bool.eq_iff_iff, dia_iff (sh_err hn hc) hc.1, dia_iff (sh_err hn hR) hR.1]
  constructor
  · rintro ⟨v, h1, h2⟩
    obtain ⟨u, h3, h4⟩ := (compose_bit hR hS hn _ _).1 h1
    exact ⟨u, h3, (dia_iff (sh_err hn hS) hS.1 _ _).2 ⟨v, h4, h2⟩⟩
  · rintro ⟨u, h1, h2⟩
    obtain ⟨v, h3, h4⟩ := (dia_iff (sh_err hn hS) hS.1 _ _).1 h2
    exact ⟨v, (compose_bit hR hS hn _ _).2 ⟨u, h1, h3⟩, h4⟩
theorem compose_box (s : Nat) (hs : s < 18446744073709551616) : box (composeV R S) s = box R (box S s) := by
  have hc := compose_sh hR.1 hS
  apply Nat.eq_of_testBit_eq
  intro w
  rw [Bool.eq_iff_iff, box_bit (sh_err hn hc) hc.1 s w hs, box_bit (sh_err hn hR) hR.1 _ w (pow64 hn (box_lt (sh_err hn hS) hS.1 s hs))]
  constructor
  · rintro ⟨hw, h⟩
    refine ⟨hw, fun u hu => (box_bit (sh_err hn hS) hS.1 s u hs).2 ⟨(bit_in hR hu).2, fun v hv => h v ((compose_bit hR hS hn _ _).2 ⟨u, hu, hv⟩)⟩⟩
  · rintro ⟨hw, h⟩
    refine ⟨hw, fun v hv => ?_⟩
    obtain ⟨u, h3, h4⟩ := (compose_bit hR hS hn _ _).1 hv
    exact ((box_bit (sh_err hn hS) hS.1 s u hs).1 (h u h3)).2 v h4
end
end Go.Proofs.YtogjbghieoifjaaDoor
