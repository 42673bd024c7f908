/- Layer 6: texts joined: Fr27 Fr28. -/
import Derived.Test.YtkhalapppkhopaaDoorNFc
import Derived.Test.YtkhalapppkhopaaDoorNFo
import Derived.Laws.BitsAllLaws
/- Layer 15: axioms and properties, as plain mathematics. -/
namespace Go.Proofs.YtkhalapppkhopaaDoor
open Go.RowKit Go.Proofs.Ws
set_option maxRecDepth 100000
/-- the axiom of a property is true at a world for a set -/
def axQ (p : Int) (l : List Nat) (s w : Nat) : Prop :=
  if p = 1 then (∀ v, bit l w v = true → s.testBit v = true) → ∃ v, bit l w v = true ∧ s.testBit v = true
  else if p = 2 then (∀ v, bit l w v = true → s.testBit v = true) → s.testBit w = true
  else if p = 3 then s.testBit w = true → ∀ v, bit l w v = true → ∃ u, bit l v u = true ∧ s.testBit u = true
  else if p = 4 then (∀ v, bit l w v = true → s.testBit v = true) → ∀ v, bit l w v = true → ∀ u, bit l v u = true → s.testBit u = true
  else (∃ v, bit l w v = true ∧ s.testBit v = true) → ∀ v, bit l w v = true → ∃ u, bit l v u = true ∧ s.testBit u = true
def andN (a b : Nat) : Nat := a &&& (18446744073709551615 - b)
def axV (n : Nat) (p : Int) (l : List Nat) (s : Nat) : Nat :=
  if p = 1 then andN (allV n) (box l s) ||| dia l s
  else if p = 2 then andN (allV n) (box l s) ||| s
  else if p = 3 then andN (allV n) s ||| box l (dia l s)
  else if p = 4 then andN (allV n) (box l s) ||| box l (box l s)
  else andN (allV n) (dia l s) ||| box l (dia l s)
theorem pow_le64 {n : Nat} (h : n ≤ 64) : 2 ^ n ≤ 18446744073709551616 := Nat.le_trans (Nat.pow_le_pow_right (by decide) h) (by decide)
section
variable {l : List Nat} {n : Nat} (h0 : relErr n l = 0) (hl : l.length = n)
include h0 hl
theorem box_w (s : Nat) (hs : s < 18446744073709551616) : box l s < 18446744073709551616 := Nat.lt_of_lt_of_le (box_lt h0 hl s hs) (pow_le64 (relErr_zero h0))
theorem dia_w (s : Nat) : dia l s < 18446744073709551616 := Nat.lt_of_lt_of_le (dia_lt h0 hl s) (pow_le64 (relErr_zero h0))
omit hl in
theorem andN_bit (b w : Nat) (hb : b < 18446744073709551616) : (andN (allV n) b).testBit w = true ↔ w < n ∧ ¬ b.testBit w = true := by
  have hn := relErr_zero h0
  unfold andN
  rw [Nat.testBit_and, allV_bit n w hn, not_bit b w hb, Bool.and_eq_true, decide_eq_true_eq, Bool.and_eq_true, decide_eq_true_eq]
  constructor
  · intro h; exact ⟨h.1, by simpa using h.2.2⟩
  · intro h; exact ⟨h.1, by omega, by simpa using h.2⟩
theorem axV_bit (p : Int) (s w : Nat) (hw : w < n) (hs : s < 18446744073709551616) : (axV n p l s).testBit w = true ↔ axQ p l s w := by
  have hbx := box_bit h0 hl s w hs
  have hdx := dia_iff h0 hl s w
  have hbw := box_w h0 hl s hs
  have hdw := dia_w h0 hl s
  unfold axV axQ
  split
  · rw [Nat.testBit_or, Bool.or_eq_true, andN_bit h0 _ w hbw, hdx, hbx]
    constructor
    · rintro (h | h) h2
      · exact absurd ⟨hw, h2⟩ h.2
      · exact h
    · intro h
      by_cases h2 : ∀ v, bit l w v = true → s.testBit v = true
      · exact .inr (h h2)
      · exact .inl ⟨hw, fun h3 => h2 h3.2⟩
  split
  · rw [Nat.testBit_or, Bool.or_eq_true, andN_bit h0 _ w hbw, hbx]
    constructor
    · rintro (h | h) h2
      · exact absurd ⟨hw, h2⟩ h.2
      · exact h
    · intro h
      by_cases h2 : ∀ v, bit l w v = true → s.testBit v = true
      · exact .inr (h h2)
      · exact .inl ⟨hw, fun h3 => h2 h3.2⟩
  split
  · rw [Nat.testBit_or, Bool.or_eq_true, andN_bit h0 _ w hs, box_bit h0 hl _ w hdw]
    constructor
    · rintro (h | h) h2
      · exact absurd h2 h.2
      · exact fun v hv => (dia_iff h0 hl s v).1 (h.2 v hv)
    · intro h
      by_cases h2 : s.testBit w = true
      · exact .inr ⟨hw, fun v hv => (dia_iff h0 hl s v).2 (h h2 v hv)⟩
      · exact .inl ⟨hw, h2⟩
  split
  · rw [Nat.testBit_or, Bool.or_eq_true, andN_bit h0 _ w hbw, box_bit h0 hl _ w hbw, hbx]
    constructor
    · rintro (h | h) h2
      · exact absurd ⟨hw, h2⟩ h.2
      · exact fun v hv u hu => ((box_bit h0 hl s v hs).1 (h.2 v hv)).2 u hu
    · intro h
      by_cases h2 : ∀ v, bit l w v = true → s.testBit v = true
      · exact .inr ⟨hw, fun v hv => (box_bit h0 hl s v hs).2 ⟨(bit_in ⟨hl, relErr_rows h0⟩ hv).2, fun u hu => h h2 v hv u hu⟩⟩
      · exact .inl ⟨hw, fun h3 => h2 h3.2⟩
  · rw [Nat.testBit_or, Bool.or_eq_true, andN_bit h0 _ w hdw, box_bit h0 hl _ w hdw, hdx]
    constructor
    · rintro (h | h) h2
      · exact absurd h2 h.2
      · exact fun v hv => (dia_iff h0 hl s v).1 (h.2 v hv)
    · intro h
      by_cases h2 : ∃ v, bit l w v = true ∧ s.testBit v = true
      · exact .inr ⟨hw, fun v hv => (dia_iff h0 hl s v).2 (h h2 v hv)⟩
      · exact .inl ⟨hw, h2⟩
theorem axV_lt (p : Int) (s : Nat) (hs : s < 2 ^ n) : axV n p l s < 2 ^ n := by
  have hs64 : s < 18446744073709551616 := Nat.lt_of_lt_of_le hs (pow_le64 (relErr_zero h0))
  have ha : ∀ b, b < 18446744073709551616 → andN (allV n) b < 2 ^ n := fun b hb => lt_of_bits fun v hv => ((andN_bit h0 b v hb).1 hv).1
  have hb := box_lt h0 hl s hs64
  have hd := dia_lt h0 hl s
  unfold axV
  split
  · exact Nat.or_lt_two_pow (ha _ (box_w h0 hl s hs64)) hd
  split
  · exact Nat.or_lt_two_pow (ha _ (box_w h0 hl s hs64)) hs
  split
  · exact Nat.or_lt_two_pow (ha _ hs64) (box_lt h0 hl _ (dia_w h0 hl s))
  split
  · exact Nat.or_lt_two_pow (ha _ (box_w h0 hl s hs64)) (box_lt h0 hl _ (box_w h0 hl s hs64))
  · exact Nat.or_lt_two_pow (ha _ (dia_w h0 hl s)) (box_lt h0 hl _ (dia_w h0 hl s))
theorem axV_all (p : Int) (s : Nat) (hs : s < 2 ^ n) : axV n p l s = allV n ↔ ∀ w, w < n → axQ p l s w := by
  have hn := relErr_zero h0
  have hs64 : s < 18446744073709551616 := Nat.lt_of_lt_of_le hs (pow_le64 hn)
  constructor
  · intro e w hw
    rw [← axV_bit h0 hl p s w hw hs64, e, allV_bit n w hn]
    exact decide_eq_true hw
  · intro h
    apply Nat.eq_of_testBit_eq
    intro w
    rw [allV_bit n w hn]
    by_cases hw : w < n
    · rw [(axV_bit h0 hl p s w hw hs64).2 (h w hw), decide_eq_true hw]
    · rw [decide_eq_false hw, Nat.testBit_lt_two_pow (Nat.lt_of_lt_of_le (axV_lt h0 hl p s hs) (Nat.pow_le_pow_right (by decide) (by omega)))]
theorem row_lt (w : Nat) : l.getD w 0 < 2 ^ n := by
  by_cases h : w < l.length
  · exact relErr_rows h0 _ (getD_mem h)
  · rw [List.getD_eq_getElem?_getD, List.getElem?_eq_none (by omega)]
    exact Nat.two_pow_pos n
/-- a relation has a property exactly if its axiom is true in all worlds for all sets -/
theorem corr (p : Int) (hp : 1 ≤ p ∧ p ≤ 5) : (∀ s, s < 2 ^ n → ∀ w, w < n → axQ p l s w) ↔ HasP n p l := by
  have hsh : Sh n l := ⟨hl, relErr_rows h0⟩
  have hc : p = 1 ∨ p = 2 ∨ p = 3 ∨ p = 4 ∨ p = 5 := by omega
  rcases hc with rfl | rfl | rfl | rfl | rfl
  · rw [hasP1]
    constructor
    · intro h hm
      obtain ⟨i, hi, e⟩ := List.getElem_of_mem hm
      have hb : ∀ v, bit l i v = false := fun v => by
        unfold bit
        rw [List.getD_eq_getElem?_getD, List.getElem?_eq_getElem hi, e]
        simp
      have h1 : (∀ v, bit l i v = true → (0 : Nat).testBit v = true) → ∃ v, bit l i v = true ∧ (0 : Nat).testBit v = true := h 0 (Nat.two_pow_pos n) i (by omega)
      obtain ⟨v, hv, _⟩ := h1 (fun v hv => by rw [hb v] at hv; cases hv)
      rw [hb v] at hv
      cases hv
    · intro h s _ w hw
      show (∀ v, bit l w v = true → s.testBit v = true) → ∃ v, bit l w v = true ∧ s.testBit v = true
      intro h2
      have hne : l.getD w 0 ≠ 0 := fun e => h (by rw [← e]; exact getD_mem (by omega))
      obtain ⟨v, hv⟩ := Nat.exists_testBit_of_ne_zero hne
      exact ⟨v, hv, h2 v hv⟩
  · rw [hasP2]
    constructor
    · intro h w hw
      have h1 : (∀ v, bit l w v = true → (l.getD w 0).testBit v = true) → (l.getD w 0).testBit w = true := h _ (row_lt h0 hl w) w hw
      exact h1 (fun v hv => hv)
    · intro h s _ w hw
      show (∀ v, bit l w v = true → s.testBit v = true) → s.testBit w = true
      exact fun h2 => h2 w (h w hw)
  · rw [hasP3]
    constructor
    · intro h w v hwv
      have hb := bit_in hsh hwv
      have h1 : (2 ^ w).testBit w = true → ∀ v, bit l w v = true → ∃ u, bit l v u = true ∧ (2 ^ w).testBit u = true := h _ (Nat.pow_lt_pow_right (by decide) hb.1) w hb.1
      obtain ⟨u, hu, h2⟩ := h1 (Nat.testBit_two_pow_self) v hwv
      rw [Nat.testBit_two_pow] at h2
      have := of_decide_eq_true h2
      subst this
      exact hu
    · intro h s _ w hw
      show s.testBit w = true → ∀ v, bit l w v = true → ∃ u, bit l v u = true ∧ s.testBit u = true
      exact fun h2 v hv => ⟨w, h w v hv, h2⟩
  · rw [hasP4]
    constructor
    · intro h w v u hwv hvu
      have hb := bit_in hsh hwv
      have h1 : (∀ v, bit l w v = true → (l.getD w 0).testBit v = true) → ∀ v, bit l w v = true → ∀ u, bit l v u = true → (l.getD w 0).testBit u = true := h _ (row_lt h0 hl w) w hb.1
      exact h1 (fun v hv => hv) v hwv u hvu
    · intro h s _ w hw
      show (∀ v, bit l w v = true → s.testBit v = true) → ∀ v, bit l w v = true → ∀ u, bit l v u = true → s.testBit u = true
      exact fun h2 v hv u hu => h2 u (h w v u hv hu)
  · rw [hasP5]
    constructor
    · intro h w u v hwu hwv
      have hb := bit_in hsh hwu
      have hb2 := bit_in hsh hwv
      have h1 : (∃ x, bit l w x = true ∧ (2 ^ v).testBit x = true) → ∀ x, bit l w x = true → ∃ y, bit l x y = true ∧ (2 ^ v).testBit y = true := h _ (Nat.pow_lt_pow_right (by decide) hb2.2) w hb.1
      obtain ⟨y, hy, h2⟩ := h1 ⟨v, hwv, Nat.testBit_two_pow_self⟩ u hwu
      rw [Nat.testBit_two_pow] at h2
      have := of_decide_eq_true h2
      subst this
      exact hy
    · intro h s _ w hw
      show (∃ v, bit l w v = true ∧ s.testBit v = true) → ∀ v, bit l w v = true → ∃ u, bit l v u = true ∧ s.testBit u = true
      rintro ⟨x, hx, h2⟩ v hv
      exact ⟨x, h w v x hv hx, h2⟩
/-- the set that worlds give makes the axiom false -/
theorem refutes (p : Int) (hp : 1 ≤ p ∧ p ≤ 5) (x : List Nat) (hd : DigL n (lenP p) x) (hs : shB p l x = true) : setV p l x < 2 ^ n ∧ ¬ axQ p l (setV p l x) (x.getD 0 0) := by
  have hc : p = 1 ∨ p = 2 ∨ p = 3 ∨ p = 4 ∨ p = 5 := by omega
  rcases hc with rfl | rfl | rfl | rfl | rfl
  · have h1 : decide (l.getD (x.getD 0 0) 0 = 0) = true := hs
    have h1 := of_decide_eq_true h1
    refine ⟨Nat.two_pow_pos n, fun h => ?_⟩
    have h2 : (∀ v, bit l (x.getD 0 0) v = true → (0 : Nat).testBit v = true) → ∃ v, bit l (x.getD 0 0) v = true ∧ (0 : Nat).testBit v = true := h
    have hb : ∀ v, bit l (x.getD 0 0) v = false := fun v => by unfold bit; rw [h1]; simp
    obtain ⟨v, hv, _⟩ := h2 (fun v hv => by rw [hb v] at hv; cases hv)
    rw [hb v] at hv
    cases hv
  · have h1 : (!bit l (x.getD 0 0) (x.getD 0 0)) = true := hs
    refine ⟨row_lt h0 hl _, fun h => ?_⟩
    have h2 : (∀ v, bit l (x.getD 0 0) v = true → (l.getD (x.getD 0 0) 0).testBit v = true) → (l.getD (x.getD 0 0) 0).testBit (x.getD 0 0) = true := h
    have h3 : bit l (x.getD 0 0) (x.getD 0 0) = true := h2 (fun v hv => hv)
    rw [h3] at h1
    cases h1
  · have h1 : (bit l (x.getD 0 0) (x.getD 1 0) && !bit l (x.getD 1 0) (x.getD 0 0)) = true := hs
    rw [Bool.and_eq_true] at h1
    refine ⟨Nat.pow_lt_pow_right (by decide) (hd.at_ (k := 0) (by decide)), fun h => ?_⟩
    have h2 : (2 ^ (x.getD 0 0)).testBit (x.getD 0 0) = true → ∀ v, bit l (x.getD 0 0) v = true → ∃ u, bit l v u = true ∧ (2 ^ (x.getD 0 0)).testBit u = true := h
    obtain ⟨u, hu, h3⟩ := h2 Nat.testBit_two_pow_self _ h1.1
    rw [Nat.testBit_two_pow] at h3
    rw [← of_decide_eq_true h3] at hu
    rw [hu] at h1
    exact absurd h1.2 (by decide)
  · have h1 : (bit l (x.getD 0 0) (x.getD 1 0) && bit l (x.getD 1 0) (x.getD 2 0) && !bit l (x.getD 0 0) (x.getD 2 0)) = true := hs
    rw [Bool.and_eq_true, Bool.and_eq_true] at h1
    refine ⟨row_lt h0 hl _, fun h => ?_⟩
    have h2 : (∀ v, bit l (x.getD 0 0) v = true → (l.getD (x.getD 0 0) 0).testBit v = true) → ∀ v, bit l (x.getD 0 0) v = true → ∀ u, bit l v u = true → (l.getD (x.getD 0 0) 0).testBit u = true := h
    have h3 : bit l (x.getD 0 0) (x.getD 2 0) = true := h2 (fun v hv => hv) _ h1.1.1 _ h1.1.2
    rw [h3] at h1
    exact absurd h1.2 (by decide)
  · have h1 : (bit l (x.getD 0 0) (x.getD 1 0) && bit l (x.getD 0 0) (x.getD 2 0) && !bit l (x.getD 1 0) (x.getD 2 0)) = true := hs
    rw [Bool.and_eq_true, Bool.and_eq_true] at h1
    refine ⟨Nat.pow_lt_pow_right (by decide) (hd.at_ (k := 2) (by decide)), fun h => ?_⟩
    have h2 : (∃ v, bit l (x.getD 0 0) v = true ∧ (2 ^ (x.getD 2 0)).testBit v = true) → ∀ v, bit l (x.getD 0 0) v = true → ∃ u, bit l v u = true ∧ (2 ^ (x.getD 2 0)).testBit u = true := h
    obtain ⟨u, hu, h3⟩ := h2 ⟨_, h1.1.2, Nat.testBit_two_pow_self⟩ _ h1.1.1
    rw [Nat.testBit_two_pow] at h3
    rw [← of_decide_eq_true h3] at hu
    rw [hu] at h1
    exact absurd h1.2 (by decide)
end
end Go.Proofs.YtkhalapppkhopaaDoor
/- Layer 15: the law's function holds. -/
namespace Go.Proofs.YtkhalapppkhopaaDoor
open Go.RowKit Go.Proofs.Ws
set_option maxRecDepth 100000
theorem andN_run (a b : Nat) (ha : a < 18446744073709551616) (hb : b < 18446744073709551616) : bits .andNot .u64 (a : Int) (b : Int) = ((andN a b : Nat) : Int) := u64_andNot_nat a b ha hb
theorem andN_w (a b : Nat) (ha : a < 18446744073709551616) : andN a b < 18446744073709551616 := Nat.lt_of_le_of_lt Nat.and_le_left ha
section
variable (l : List Nat) (A : Option Addr) (n c : Nat) (s : Nat) (w : World) (hR : Reads w w.heap.size 1 A n (us l)) (hw : Words l) (h0 : relErr n l = 0) (hs : s < 18446744073709551616)
include hR hw h0 hs
set_option maxHeartbeats 4000000 in
theorem holds1_any : Calls Tryd.prog 21 #[.slice A n c, .int .i64 1, .int .u64 (s : Int)] w fun e w' => e = .returned (.int .u64 ((axV n 1 l s : Nat) : Int)) ∧ Below w.heap.size w w' := by
  have hl := hR.word_len
  have hn := relErr_zero h0
  have HA := Lib.hid (fun W => ref2All_any n W hn)
  have HBX : Hid (∀ W (t : Nat), t < 18446744073709551616 → Below w.heap.size w W → Calls Tryd.prog 50 #[.slice A n c, .int .u64 (t : Int)] W fun e w' => e = .returned (.int .u64 ((box l t : Nat) : Int)) ∧ Below W.heap.size W w') := Lib.hid (fun W t ht hb => box_any l t A n c W ((hR.below hb).more hb.size) hw (by unfold maxLen; omega) ht)
  have HDX : Hid (∀ W (t : Nat), t < 18446744073709551616 → Below w.heap.size w W → Calls Tryd.prog 51 #[.slice A n c, .int .u64 (t : Int)] W fun e w' => e = .returned (.int .u64 ((dia l t : Nat) : Int)) ∧ Below W.heap.size W w') := Lib.hid (fun W t ht hb => dia_any l t A n c W ((hR.below hb).more hb.size) hw (by unfold maxLen; omega) ht)
  have hv : axV n 1 l s = andN (allV n) (box l s) ||| dia l s := rfl
  rw [hv]
  have wB := box_w h0 hl s hs
  have wD := dia_w h0 hl s
  have wA : allV n < 18446744073709551616 := allV_lt _
  have K0 := Lib.hid (fun W (hb : Below w.heap.size w W) => HBX.out W (s) hs hb)
  have K1 := Lib.hid (fun W (hb : Below w.heap.size w W) => HDX.out W (s) hs hb)
  have r1 := andN_run (allV n) (box l s) wA wB
  have r2 := u64_or_nat (andN (allV n) (box l s)) (dia l s) (andN_w _ _ wA) wD
  clear hR hw h0 hs hv hl hn HBX HDX wB wD wA
  generalize (andN (allV n) (box l s) ||| dia l s) = res at *
  generalize andN (allV n) (box l s) = an at *
  generalize box l s = vb at *
  generalize dia l s = vd at *
  generalize allV n = va at *
  go_enter Tryd.func21, Tryd.ntmps21
  go_wp2_with fail
  refine (HA.out _).mono ?_
  rintro e w1 ⟨rfl, rfl⟩
  go_wp2_with fail
  refine (K0.out _ (Below.refl w.heap.size w)).mono ?_
  rintro e x0 ⟨rfl, hb⟩
  have HB0 := Lib.hid ((Below.refl w.heap.size w).trans (hb.mono (Below.refl w.heap.size w).size))
  clear hb
  go_wp2_with fail
  refine (K1.out _ HB0.out).mono ?_
  rintro e x1 ⟨rfl, hb⟩
  have HB1 := Lib.hid (HB0.out.trans (hb.mono HB0.out.size))
  clear hb
  go_wp2
  go_ret
  exact ⟨rfl, HB1.out⟩
set_option maxHeartbeats 4000000 in
theorem holds2_any : Calls Tryd.prog 21 #[.slice A n c, .int .i64 2, .int .u64 (s : Int)] w fun e w' => e = .returned (.int .u64 ((axV n 2 l s : Nat) : Int)) ∧ Below w.heap.size w w' := by
  have hl := hR.word_len
  have hn := relErr_zero h0
  have HA := Lib.hid (fun W => ref2All_any n W hn)
  have HBX : Hid (∀ W (t : Nat), t < 18446744073709551616 → Below w.heap.size w W → Calls Tryd.prog 50 #[.slice A n c, .int .u64 (t : Int)] W fun e w' => e = .returned (.int .u64 ((box l t : Nat) : Int)) ∧ Below W.heap.size W w') := Lib.hid (fun W t ht hb => box_any l t A n c W ((hR.below hb).more hb.size) hw (by unfold maxLen; omega) ht)
  have HDX : Hid (∀ W (t : Nat), t < 18446744073709551616 → Below w.heap.size w W → Calls Tryd.prog 51 #[.slice A n c, .int .u64 (t : Int)] W fun e w' => e = .returned (.int .u64 ((dia l t : Nat) : Int)) ∧ Below W.heap.size W w') := Lib.hid (fun W t ht hb => dia_any l t A n c W ((hR.below hb).more hb.size) hw (by unfold maxLen; omega) ht)
  have hv : axV n 2 l s = andN (allV n) (box l s) ||| s := rfl
  rw [hv]
  have wB := box_w h0 hl s hs
  have wD := dia_w h0 hl s
  have wA : allV n < 18446744073709551616 := allV_lt _
  have K0 := Lib.hid (fun W (hb : Below w.heap.size w W) => HBX.out W (s) hs hb)
  have r1 := andN_run (allV n) (box l s) wA wB
  have r2 := u64_or_nat (andN (allV n) (box l s)) (s) (andN_w _ _ wA) hs
  clear hR hw h0 hs hv hl hn HBX HDX wB wD wA
  generalize (andN (allV n) (box l s) ||| s) = res at *
  generalize andN (allV n) (box l s) = an at *
  generalize box l s = vb at *
  generalize allV n = va at *
  go_enter Tryd.func21, Tryd.ntmps21
  go_wp2_with fail
  refine (HA.out _).mono ?_
  rintro e w1 ⟨rfl, rfl⟩
  go_wp2_with fail
  refine (K0.out _ (Below.refl w.heap.size w)).mono ?_
  rintro e x0 ⟨rfl, hb⟩
  have HB0 := Lib.hid ((Below.refl w.heap.size w).trans (hb.mono (Below.refl w.heap.size w).size))
  clear hb
  go_wp2
  go_ret
  exact ⟨rfl, HB0.out⟩
set_option maxHeartbeats 4000000 in
theorem holds3_any : Calls Tryd.prog 21 #[.slice A n c, .int .i64 3, .int .u64 (s : Int)] w fun e w' => e = .returned (.int .u64 ((axV n 3 l s : Nat) : Int)) ∧ Below w.heap.size w w' := by
  have hl := hR.word_len
  have hn := relErr_zero h0
  have HA := Lib.hid (fun W => ref2All_any n W hn)
  have HBX : Hid (∀ W (t : Nat), t < 18446744073709551616 → Below w.heap.size w W → Calls Tryd.prog 50 #[.slice A n c, .int .u64 (t : Int)] W fun e w' => e = .returned (.int .u64 ((box l t : Nat) : Int)) ∧ Below W.heap.size W w') := Lib.hid (fun W t ht hb => box_any l t A n c W ((hR.below hb).more hb.size) hw (by unfold maxLen; omega) ht)
  have HDX : Hid (∀ W (t : Nat), t < 18446744073709551616 → Below w.heap.size w W → Calls Tryd.prog 51 #[.slice A n c, .int .u64 (t : Int)] W fun e w' => e = .returned (.int .u64 ((dia l t : Nat) : Int)) ∧ Below W.heap.size W w') := Lib.hid (fun W t ht hb => dia_any l t A n c W ((hR.below hb).more hb.size) hw (by unfold maxLen; omega) ht)
  have hv : axV n 3 l s = andN (allV n) (s) ||| box l (dia l s) := rfl
  rw [hv]
  have wB := box_w h0 hl s hs
  have wD := dia_w h0 hl s
  have wA : allV n < 18446744073709551616 := allV_lt _
  have wE : box l (dia l s) < 18446744073709551616 := box_w h0 hl _ wD
  have K0 := Lib.hid (fun W (hb : Below w.heap.size w W) => HDX.out W (s) hs hb)
  have K1 := Lib.hid (fun W (hb : Below w.heap.size w W) => HBX.out W (dia l s) wD hb)
  have r1 := andN_run (allV n) (s) wA hs
  have r2 := u64_or_nat (andN (allV n) (s)) (box l (dia l s)) (andN_w _ _ wA) wE
  clear hR hw h0 hs hv hl hn HBX HDX wB wD wA wE
  generalize (andN (allV n) (s) ||| box l (dia l s)) = res at *
  generalize andN (allV n) (s) = an at *
  generalize box l (dia l s) = ve at *
  generalize dia l s = vd at *
  generalize allV n = va at *
  go_enter Tryd.func21, Tryd.ntmps21
  go_wp2_with fail
  refine (HA.out _).mono ?_
  rintro e w1 ⟨rfl, rfl⟩
  go_wp2_with fail
  refine (K0.out _ (Below.refl w.heap.size w)).mono ?_
  rintro e x0 ⟨rfl, hb⟩
  have HB0 := Lib.hid ((Below.refl w.heap.size w).trans (hb.mono (Below.refl w.heap.size w).size))
  clear hb
  go_wp2_with fail
  refine (K1.out _ HB0.out).mono ?_
  rintro e x1 ⟨rfl, hb⟩
  have HB1 := Lib.hid (HB0.out.trans (hb.mono HB0.out.size))
  clear hb
  go_wp2
  go_ret
  exact ⟨rfl, HB1.out⟩
set_option maxHeartbeats 4000000 in
theorem holds4_any : Calls Tryd.prog 21 #[.slice A n c, .int .i64 4, .int .u64 (s : Int)] w fun e w' => e = .returned (.int .u64 ((axV n 4 l s : Nat) : Int)) ∧ Below w.heap.size w w' := by
  have hl := hR.word_len
  have hn := relErr_zero h0
  have HA := Lib.hid (fun W => ref2All_any n W hn)
  have HBX : Hid (∀ W (t : Nat), t < 18446744073709551616 → Below w.heap.size w W → Calls Tryd.prog 50 #[.slice A n c, .int .u64 (t : Int)] W fun e w' => e = .returned (.int .u64 ((box l t : Nat) : Int)) ∧ Below W.heap.size W w') := Lib.hid (fun W t ht hb => box_any l t A n c W ((hR.below hb).more hb.size) hw (by unfold maxLen; omega) ht)
  have HDX : Hid (∀ W (t : Nat), t < 18446744073709551616 → Below w.heap.size w W → Calls Tryd.prog 51 #[.slice A n c, .int .u64 (t : Int)] W fun e w' => e = .returned (.int .u64 ((dia l t : Nat) : Int)) ∧ Below W.heap.size W w') := Lib.hid (fun W t ht hb => dia_any l t A n c W ((hR.below hb).more hb.size) hw (by unfold maxLen; omega) ht)
  have hv : axV n 4 l s = andN (allV n) (box l s) ||| box l (box l s) := rfl
  rw [hv]
  have wB := box_w h0 hl s hs
  have wD := dia_w h0 hl s
  have wA : allV n < 18446744073709551616 := allV_lt _
  have wE : box l (box l s) < 18446744073709551616 := box_w h0 hl _ wB
  have K0 := Lib.hid (fun W (hb : Below w.heap.size w W) => HBX.out W (s) hs hb)
  have K1 := Lib.hid (fun W (hb : Below w.heap.size w W) => HBX.out W (s) hs hb)
  have K2 := Lib.hid (fun W (hb : Below w.heap.size w W) => HBX.out W (box l s) wB hb)
  have r1 := andN_run (allV n) (box l s) wA wB
  have r2 := u64_or_nat (andN (allV n) (box l s)) (box l (box l s)) (andN_w _ _ wA) wE
  clear hR hw h0 hs hv hl hn HBX HDX wB wD wA wE
  generalize (andN (allV n) (box l s) ||| box l (box l s)) = res at *
  generalize andN (allV n) (box l s) = an at *
  generalize box l (box l s) = ve at *
  generalize box l s = vb at *
  generalize allV n = va at *
  go_enter Tryd.func21, Tryd.ntmps21
  go_wp2_with fail
  refine (HA.out _).mono ?_
  rintro e w1 ⟨rfl, rfl⟩
  go_wp2_with fail
  refine (K0.out _ (Below.refl w.heap.size w)).mono ?_
  rintro e x0 ⟨rfl, hb⟩
  have HB0 := Lib.hid ((Below.refl w.heap.size w).trans (hb.mono (Below.refl w.heap.size w).size))
  clear hb
  go_wp2_with fail
  refine (K1.out _ HB0.out).mono ?_
  rintro e x1 ⟨rfl, hb⟩
  have HB1 := Lib.hid (HB0.out.trans (hb.mono HB0.out.size))
  clear hb
  go_wp2_with fail
  refine (K2.out _ HB1.out).mono ?_
  rintro e x2 ⟨rfl, hb⟩
  have HB2 := Lib.hid (HB1.out.trans (hb.mono HB1.out.size))
  clear hb
  go_wp2
  go_ret
  exact ⟨rfl, HB2.out⟩
set_option maxHeartbeats 4000000 in
theorem holds5_any (p : Int) (hp : ¬ (p = 1 ∨ p = 2 ∨ p = 3 ∨ p = 4)) : Calls Tryd.prog 21 #[.slice A n c, .int .i64 p, .int .u64 (s : Int)] w fun e w' => e = .returned (.int .u64 ((axV n p l s : Nat) : Int)) ∧ Below w.heap.size w w' := by
  have hl := hR.word_len
  have hn := relErr_zero h0
  have HA := Lib.hid (fun W => ref2All_any n W hn)
  have HBX : Hid (∀ W (t : Nat), t < 18446744073709551616 → Below w.heap.size w W → Calls Tryd.prog 50 #[.slice A n c, .int .u64 (t : Int)] W fun e w' => e = .returned (.int .u64 ((box l t : Nat) : Int)) ∧ Below W.heap.size W w') := Lib.hid (fun W t ht hb => box_any l t A n c W ((hR.below hb).more hb.size) hw (by unfold maxLen; omega) ht)
  have HDX : Hid (∀ W (t : Nat), t < 18446744073709551616 → Below w.heap.size w W → Calls Tryd.prog 51 #[.slice A n c, .int .u64 (t : Int)] W fun e w' => e = .returned (.int .u64 ((dia l t : Nat) : Int)) ∧ Below W.heap.size W w') := Lib.hid (fun W t ht hb => dia_any l t A n c W ((hR.below hb).more hb.size) hw (by unfold maxLen; omega) ht)
  have d1 : (p == 1) = false := by rw [beq_eq_false_iff_ne]; omega
  have d2 : (p == 2) = false := by rw [beq_eq_false_iff_ne]; omega
  have d3 : (p == 3) = false := by rw [beq_eq_false_iff_ne]; omega
  have d4 : (p == 4) = false := by rw [beq_eq_false_iff_ne]; omega
  have hv : axV n p l s = andN (allV n) (dia l s) ||| box l (dia l s) := by unfold axV; rw [if_neg (by omega), if_neg (by omega), if_neg (by omega), if_neg (by omega)]
  rw [hv]
  have wB := box_w h0 hl s hs
  have wD := dia_w h0 hl s
  have wA : allV n < 18446744073709551616 := allV_lt _
  have wE : box l (dia l s) < 18446744073709551616 := box_w h0 hl _ wD
  have K0 := Lib.hid (fun W (hb : Below w.heap.size w W) => HDX.out W (s) hs hb)
  have K1 := Lib.hid (fun W (hb : Below w.heap.size w W) => HDX.out W (s) hs hb)
  have K2 := Lib.hid (fun W (hb : Below w.heap.size w W) => HBX.out W (dia l s) wD hb)
  have r1 := andN_run (allV n) (dia l s) wA wD
  have r2 := u64_or_nat (andN (allV n) (dia l s)) (box l (dia l s)) (andN_w _ _ wA) wE
  clear hR hw h0 hs hv hl hn HBX HDX wB wD wA wE hp
  generalize (andN (allV n) (dia l s) ||| box l (dia l s)) = res at *
  generalize andN (allV n) (dia l s) = an at *
  generalize box l (dia l s) = ve at *
  generalize dia l s = vd at *
  generalize allV n = va at *
  go_enter Tryd.func21, Tryd.ntmps21
  go_wp2_with fail
  refine (HA.out _).mono ?_
  rintro e w1 ⟨rfl, rfl⟩
  go_wp2_with fail
  refine (K0.out _ (Below.refl w.heap.size w)).mono ?_
  rintro e x0 ⟨rfl, hb⟩
  have HB0 := Lib.hid ((Below.refl w.heap.size w).trans (hb.mono (Below.refl w.heap.size w).size))
  clear hb
  go_wp2_with fail
  refine (K1.out _ HB0.out).mono ?_
  rintro e x1 ⟨rfl, hb⟩
  have HB1 := Lib.hid (HB0.out.trans (hb.mono HB0.out.size))
  clear hb
  go_wp2_with fail
  refine (K2.out _ HB1.out).mono ?_
  rintro e x2 ⟨rfl, hb⟩
  have HB2 := Lib.hid (HB1.out.trans (hb.mono HB1.out.size))
  clear hb
  go_wp2
  go_ret
  exact ⟨rfl, HB2.out⟩
theorem holds_any (p : Int) : Calls Tryd.prog 21 #[.slice A n c, .int .i64 p, .int .u64 (s : Int)] w fun e w' => e = .returned (.int .u64 ((axV n p l s : Nat) : Int)) ∧ Below w.heap.size w w' := by
  by_cases hp : p = 1 ∨ p = 2 ∨ p = 3 ∨ p = 4
  · rcases hp with rfl | rfl | rfl | rfl
    · exact holds1_any l A n c s w hR hw h0 hs
    · exact holds2_any l A n c s w hR hw h0 hs
    · exact holds3_any l A n c s w hR hw h0 hs
    · exact holds4_any l A n c s w hR hw h0 hs
  · exact holds5_any l A n c s w hR hw h0 hs p hp
end
end Go.Proofs.YtkhalapppkhopaaDoor
