/- Contracts of layer 2's reference: the transitive and the euclidean closure. -/
import Derived.Test.YtogjbghieoifjaaDoorRr
namespace Go.Proofs.YtogjbghieoifjaaDoor
open Go.RowKit Go.Proofs.Ws
set_option maxRecDepth 100000 in
theorem refTransitive_any (l : List Nat) (A : Option Addr) (n c : Nat) (w : World) (hR : Reads w w.heap.size 1 A n (us l)) (hw : Words l) (hm : n ≤ maxLen) (hA : A = none → c = 0) :
    Calls Tryd.prog 29 #[.slice A n c] w fun e w' => (relErr l.length l = 0 ∧ ∃ C, IsClo n PTrans l C ∧ GivesR C w e w') ∨ (relErr l.length l ≠ 0 ∧ GivesE (relErr l.length l) w e w') := by
  have e1 := hR.word_len
  have HK := Lib.hid (ref2Check_any n l A n c _ w hR hw hm)
  have E1 := Lib.hid e1
  have HR := Lib.hid hR
  rw [e1]
  clear hR hw hm e1
  by_cases h0 : relErr n l = 0
  · have hn : n ≤ 64 := relErr_zero h0
    have HS : Hid (Sh n l) := Lib.hid ⟨E1.out, relErr_rows h0⟩
    rw [h0] at HK
    have H0 := Lib.hid h0
    clear h0
    go_enter Tryd.func29, Tryd.ntmps29
    go_wp2_with fail
    refine (HK.out).mono ?_
    rintro e w0 ⟨rfl, q0, rfl⟩
    have HX := Lib.hid (refGrowT_any l A n c (w.drewN q0) (HR.out.drewN q0) HS.out hn hA)
    go_wp2_with fail
    refine (HX.out).mono ?_
    rintro e w1 ⟨C, hC, A1, c1, rfl, hR1, hb1⟩
    have HH := Lib.hid (And.intro hC (And.intro hR1 ((below_drewN (Below.refl _ w) q0).trans hb1)))
    clear hC hR1 hb1
    go_wp2
    go_ret2
    exact Or.inl ⟨H0.out, C, HH.out.1, A1, c1, rfl, HH.out.2.1, HH.out.2.2⟩
  · have hne : (relErr n l != 0) = true := by simp [h0]
    have H0 := Lib.hid h0
    clear h0
    go_enter Tryd.func29, Tryd.ntmps29
    go_wp2_with fail
    refine (HK.out).mono ?_
    rintro e w0 ⟨rfl, q0, rfl⟩
    go_wp2
    go_ret2
    exact Or.inr ⟨H0.out, rfl, below_drewN (Below.refl _ _) _⟩
set_option maxRecDepth 100000 in
theorem refEuclidean_any (l : List Nat) (A : Option Addr) (n c : Nat) (w : World) (hR : Reads w w.heap.size 1 A n (us l)) (hw : Words l) (hm : n ≤ maxLen) (hA : A = none → c = 0) :
    Calls Tryd.prog 30 #[.slice A n c] w fun e w' => (relErr l.length l = 0 ∧ ∃ C, IsClo n PEucl l C ∧ GivesR C w e w') ∨ (relErr l.length l ≠ 0 ∧ GivesE (relErr l.length l) w e w') := by
  have e1 := hR.word_len
  have HK := Lib.hid (ref2Check_any n l A n c _ w hR hw hm)
  have E1 := Lib.hid e1
  have HR := Lib.hid hR
  rw [e1]
  clear hR hw hm e1
  by_cases h0 : relErr n l = 0
  · have hn : n ≤ 64 := relErr_zero h0
    have HS : Hid (Sh n l) := Lib.hid ⟨E1.out, relErr_rows h0⟩
    rw [h0] at HK
    have H0 := Lib.hid h0
    clear h0
    go_enter Tryd.func30, Tryd.ntmps30
    go_wp2_with fail
    refine (HK.out).mono ?_
    rintro e w0 ⟨rfl, q0, rfl⟩
    have HX := Lib.hid (refGrowE_any l A n c (w.drewN q0) (HR.out.drewN q0) HS.out hn hA)
    go_wp2_with fail
    refine (HX.out).mono ?_
    rintro e w1 ⟨C, hC, A1, c1, rfl, hR1, hb1⟩
    have HH := Lib.hid (And.intro hC (And.intro hR1 ((below_drewN (Below.refl _ w) q0).trans hb1)))
    clear hC hR1 hb1
    go_wp2
    go_ret2
    exact Or.inl ⟨H0.out, C, HH.out.1, A1, c1, rfl, HH.out.2.1, HH.out.2.2⟩
  · have hne : (relErr n l != 0) = true := by simp [h0]
    have H0 := Lib.hid h0
    clear h0
    go_enter Tryd.func30, Tryd.ntmps30
    go_wp2_with fail
    refine (HK.out).mono ?_
    rintro e w0 ⟨rfl, q0, rfl⟩
    go_wp2
    go_ret2
    exact Or.inr ⟨H0.out, rfl, below_drewN (Below.refl _ _) _⟩
end Go.Proofs.YtogjbghieoifjaaDoor
