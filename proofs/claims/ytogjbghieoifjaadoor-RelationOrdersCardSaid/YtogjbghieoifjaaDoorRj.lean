/- Contracts of layer 2: the symmetric closure by the reference. -/
import Derived.Test.YtogjbghieoifjaaDoorRi
namespace Go.Proofs.YtogjbghieoifjaaDoor
open Go.RowKit Go.Proofs.Ws
theorem colU_in (R : List Nat) (v : Nat) : ∀ n m, n ≤ m → colU R v n < 2 ^ m
  | 0, m, _ => by show 0 < 2 ^ m; exact Nat.two_pow_pos m
  | n + 1, m, h => by
    rw [colU_succ]
    split
    · exact Nat.or_lt_two_pow (colU_in R v n m (by omega)) (Nat.pow_lt_pow_right (by decide) (by omega))
    · exact colU_in R v n m (by omega)
theorem conv_len (R : List Nat) : (convV R).length = R.length := by simp [convV]
theorem conv_in (R : List Nat) : ∀ x ∈ convV R, x < 2 ^ R.length := fun x hx => by
  unfold convV at hx
  obtain ⟨v, _, rfl⟩ := List.mem_map.1 hx
  exact colU_in R v R.length R.length (Nat.le_refl _)
theorem relErr_ok {l : List Nat} (h : l.length ≤ 64) (hx : ∀ x ∈ l, x < 2 ^ l.length) : relErr l.length l = 0 := by
  unfold relErr
  rw [if_neg (by omega), if_neg (by omega), if_pos]
  unfold inN
  rw [List.all_eq_true]
  intro x hm
  simpa using hx x hm
theorem conv_words {R : List Nat} (h : R.length ≤ 64) : Words (convV R) := fun x hx => pow64 h (conv_in R x hx)
theorem two_conv {R : List Nat} (h : relErr R.length R = 0) : twoErr R (convV R) = 0 := by
  have h64 : R.length ≤ 64 := relErr_zero h
  have h2 : relErr (convV R).length (convV R) = 0 := relErr_ok (by rw [conv_len]; exact h64) (by rw [conv_len]; exact conv_in R)
  unfold twoErr
  rw [if_neg (by omega), if_neg (by omega), if_neg (by rw [conv_len]; omega)]
def symV (R : List Nat) : List Nat := unionV R (convV R)
set_option maxRecDepth 100000 in
theorem refSymmetric_any (R : List Nat) (A : Option Addr) (m c : Nat) (w : World) (hR : Reads w w.heap.size 1 A m (us R)) (hw : Words R) (hm : m ≤ maxLen) :
    Calls Tryd.prog 28 #[.slice A m c] w fun e w' => (relErr R.length R = 0 ∧ GivesR (symV R) w e w') ∨ (relErr R.length R ≠ 0 ∧ GivesE (relErr R.length R) w e w') := by
  have e1 := hR.word_len
  have H := Lib.hid (refConverse_any R A m c w hR hw hm)
  rw [e1] at H ⊢
  have HR := Lib.hid hR
  have HW := Lib.hid hw
  have HM := Lib.hid hm
  have E1 := Lib.hid e1
  clear hR hw e1
  go_enter Tryd.func28, Tryd.ntmps28
  go_wp2_with fail
  refine (H.out).mono ?_
  rintro e w1 (⟨h0, A1, c1, rfl, hR1, hb1⟩ | ⟨h0, rfl, hb1⟩)
  · have h64 : R.length ≤ 64 := by rw [E1.out]; exact relErr_zero h0
    have HU := Lib.hid (refUnion_any R (convV R) A A1 m (convV R).length c c1 w1 ((HR.out.below hb1).more hb1.size) hR1 HW.out (conv_words h64) HM.out (by rw [conv_len]; unfold maxLen; omega))
    have HB := Lib.hid hb1
    have H0 := Lib.hid h0
    have HT := Lib.hid (two_conv (R := R) (by rw [E1.out]; exact h0))
    clear hR1 hb1 h0
    go_wp2_with fail
    refine (HU.out).mono ?_
    rintro e w2 (⟨_, A2, c2, rfl, hR2, hb2⟩ | ⟨h2, _⟩)
    · have HB2 := Lib.hid (HB.out.trans (hb2.mono HB.out.size))
      have HR2 := Lib.hid hR2
      clear hR2 hb2
      generalize hL : unionV R (convV R) = L at *
      have HL := Lib.hid hL
      clear hL
      go_wp2
      go_ret2
      refine Or.inl ⟨H0.out, A2, c2, ?_, ?_, HB2.out⟩
      · unfold symV; rw [HL.out]; rfl
      · unfold symV; rw [HL.out]; exact HR2.out
    · exact absurd HT.out h2
  · have hne : (relErr m R != 0) = true := by simp [h0]
    have HB := Lib.hid hb1
    have H0 := Lib.hid h0
    clear hb1 h0
    go_wp2
    go_ret2
    exact Or.inr ⟨H0.out, rfl, HB.out⟩
end Go.Proofs.YtogjbghieoifjaaDoor
