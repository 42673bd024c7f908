/- Contracts of layer 2: Has on both sides. -/
import Derived.Test.YtogjbghieoifjaaDoorRp
import Derived.Test.YtogjbghieoifjaaDoorRs
namespace Go.Proofs.YtogjbghieoifjaaDoor
open Go.RowKit Go.Proofs.Ws
/-- the property with a number -/
def HasP (n : Nat) (p : Int) (l : List Nat) : Prop := (p = 1 ∧ 0 ∉ l) ∨ (p = 2 ∧ PRefl n l) ∨ (p = 3 ∧ PSym l) ∨ (p = 4 ∧ PTrans l) ∨ (p = 5 ∧ PEucl l)
theorem hasP1 (n : Nat) (l : List Nat) : HasP n 1 l ↔ 0 ∉ l := by unfold HasP; simp
theorem hasP2 (n : Nat) (l : List Nat) : HasP n 2 l ↔ PRefl n l := by unfold HasP; simp
theorem hasP3 (n : Nat) (l : List Nat) : HasP n 3 l ↔ PSym l := by unfold HasP; simp
theorem hasP4 (n : Nat) (l : List Nat) : HasP n 4 l ↔ PTrans l := by unfold HasP; simp
theorem hasP5 (n : Nat) (l : List Nat) : HasP n 5 l ↔ PEucl l := by unfold HasP; simp
theorem hasPno (n : Nat) (p : Int) (l : List Nat) (h : ¬ (1 ≤ p ∧ p ≤ 5)) : ¬ HasP n p l := by unfold HasP; omega
/-- what a call hands back: whether a proposition holds -/
def GivesB (Q : Prop) (w : World) (e : Ending) (w' : World) : Prop := ∃ b : Bool, e = .returned (.bool b) ∧ (b = true ↔ Q) ∧ Below w.heap.size w w'
theorem GivesB.congr {Q R : Prop} {w : World} {e : Ending} {w' : World} (h : GivesB Q w e w') (hq : Q ↔ R) : GivesB R w e w' := by
  obtain ⟨b, he, hb, hw⟩ := h
  exact ⟨b, he, hb.trans hq, hw⟩
set_option maxRecDepth 100000 in
theorem hasNot_any (l : List Nat) (A : Option Addr) (n c : Nat) (p : Int) (w : World) (hR : Reads w w.heap.size 1 A n (us l)) (hw : Words l) (hm : n ≤ maxLen) (h0 : relErr n l ≠ 0) :
    Calls Tryd.prog 15 #[.slice A n c, .int .i64 p] w (GivesB False w) := by
  have HV := Lib.hid (valid_any l A n c _ w hR hw hm)
  rw [decide_eq_false h0] at HV
  clear hR hw h0
  go_enter Tryd.func15, Tryd.ntmps15
  go_wp2_with fail
  refine (HV.out).mono ?_
  rintro e w0 ⟨rfl, rfl⟩
  go_wp2
  go_ret
  exact ⟨false, rfl, by simp, Below.refl _ _⟩
set_option maxRecDepth 100000 in
theorem hasOther_any (l : List Nat) (A : Option Addr) (n c : Nat) (p : Int) (w : World) (hR : Reads w w.heap.size 1 A n (us l)) (hw : Words l) (hm : n ≤ maxLen) (h0 : relErr n l = 0) (hp : ¬ (1 ≤ p ∧ p ≤ 5)) :
    Calls Tryd.prog 15 #[.slice A n c, .int .i64 p] w (GivesB False w) := by
  have HV := Lib.hid (valid_any l A n c _ w hR hw hm)
  rw [decide_eq_true h0] at HV
  have p1 : (p == 1) = false := by simp; omega
  have p2 : (p == 2) = false := by simp; omega
  have p3 : (p == 3) = false := by simp; omega
  have p4 : (p == 4) = false := by simp; omega
  have p5 : (p == 5) = false := by simp; omega
  clear hR hw h0 hp
  go_enter Tryd.func15, Tryd.ntmps15
  go_wp2_with fail
  refine (HV.out).mono ?_
  rintro e w0 ⟨rfl, rfl⟩
  go_wp2
  go_ret
  exact ⟨false, rfl, by simp, Below.refl _ _⟩
set_option maxRecDepth 100000 in
theorem hasSerial_any (l : List Nat) (A : Option Addr) (n c : Nat) (w : World) (hR : Reads w w.heap.size 1 A n (us l)) (hw : Words l) (hm : n ≤ maxLen) (h0 : relErr n l = 0) :
    Calls Tryd.prog 15 #[.slice A n c, .int .i64 1] w (GivesB (0 ∉ l) w) := by
  have HV := Lib.hid (valid_any l A n c _ w hR hw hm)
  rw [decide_eq_true h0] at HV
  have HC := Lib.hid (contains_any l 0 A n c _ w hR hm)
  clear hR hw h0
  go_enter Tryd.func15, Tryd.ntmps15
  go_wp2_with fail
  refine (HV.out).mono ?_
  rintro e w0 ⟨rfl, rfl⟩
  go_wp2_with fail
  refine (HC.out).mono ?_
  rintro e w0 ⟨rfl, rfl⟩
  go_wp2
  go_ret
  exact ⟨_, rfl, by first | simp | (rw [Bool.not_eq_true', decide_eq_false_iff_not]), Below.refl _ _⟩
set_option maxRecDepth 100000 in
theorem hasReflexive_any (l : List Nat) (A : Option Addr) (n c : Nat) (w : World) (hR : Reads w w.heap.size 1 A n (us l)) (hw : Words l) (hm : n ≤ maxLen) (hT : Tab w) (h0 : relErr n l = 0) :
    Calls Tryd.prog 15 #[.slice A n c, .int .i64 2] w (GivesB ((PRefl n) l) w) := by
  have e1 := hR.word_len
  have HV := Lib.hid (valid_any l A n c _ w hR hw hm)
  rw [decide_eq_true h0] at HV
  have HC := Lib.hid (closedReflexive_any l A n c w hR ⟨e1, relErr_rows h0⟩ (relErr_zero h0) hT)
  clear hR hw h0 hT e1
  go_enter Tryd.func15, Tryd.ntmps15
  go_wp2_with fail
  refine (HV.out).mono ?_
  rintro e w0 ⟨rfl, rfl⟩
  go_wp2_with fail
  refine (HC.out).mono ?_
  rintro e w1 ⟨⟨b, rfl, hb⟩, hw⟩
  have HH := Lib.hid (And.intro hb hw)
  clear hb hw
  go_wp2
  go_ret
  exact ⟨b, rfl, HH.out.1, HH.out.2⟩
set_option maxRecDepth 100000 in
theorem hasSymmetric_any (l : List Nat) (A : Option Addr) (n c : Nat) (w : World) (hR : Reads w w.heap.size 1 A n (us l)) (hw : Words l) (hm : n ≤ maxLen) (hT : Tab w) (h0 : relErr n l = 0) :
    Calls Tryd.prog 15 #[.slice A n c, .int .i64 3] w (GivesB (PSym l) w) := by
  have e1 := hR.word_len
  have HV := Lib.hid (valid_any l A n c _ w hR hw hm)
  rw [decide_eq_true h0] at HV
  have HC := Lib.hid (closedSymmetric_any l A n c w hR ⟨e1, relErr_rows h0⟩ (relErr_zero h0) hT)
  clear hR hw h0 hT e1
  go_enter Tryd.func15, Tryd.ntmps15
  go_wp2_with fail
  refine (HV.out).mono ?_
  rintro e w0 ⟨rfl, rfl⟩
  go_wp2_with fail
  refine (HC.out).mono ?_
  rintro e w1 ⟨⟨b, rfl, hb⟩, hw⟩
  have HH := Lib.hid (And.intro hb hw)
  clear hb hw
  go_wp2
  go_ret
  exact ⟨b, rfl, HH.out.1, HH.out.2⟩
set_option maxRecDepth 100000 in
theorem hasTransitive_any (l : List Nat) (A : Option Addr) (n c : Nat) (w : World) (hR : Reads w w.heap.size 1 A n (us l)) (hw : Words l) (hm : n ≤ maxLen) (hT : Tab w) (h0 : relErr n l = 0) :
    Calls Tryd.prog 15 #[.slice A n c, .int .i64 4] w (GivesB (PTrans l) w) := by
  have e1 := hR.word_len
  have HV := Lib.hid (valid_any l A n c _ w hR hw hm)
  rw [decide_eq_true h0] at HV
  have HC := Lib.hid (closedTransitive_any l A n c w hR ⟨e1, relErr_rows h0⟩ (relErr_zero h0) hT)
  clear hR hw h0 hT e1
  go_enter Tryd.func15, Tryd.ntmps15
  go_wp2_with fail
  refine (HV.out).mono ?_
  rintro e w0 ⟨rfl, rfl⟩
  go_wp2_with fail
  refine (HC.out).mono ?_
  rintro e w1 ⟨⟨b, rfl, hb⟩, hw⟩
  have HH := Lib.hid (And.intro hb hw)
  clear hb hw
  go_wp2
  go_ret
  exact ⟨b, rfl, HH.out.1, HH.out.2⟩
set_option maxRecDepth 100000 in
theorem hasEuclidean_any (l : List Nat) (A : Option Addr) (n c : Nat) (w : World) (hR : Reads w w.heap.size 1 A n (us l)) (hw : Words l) (hm : n ≤ maxLen) (hT : Tab w) (h0 : relErr n l = 0) :
    Calls Tryd.prog 15 #[.slice A n c, .int .i64 5] w (GivesB (PEucl l) w) := by
  have e1 := hR.word_len
  have HV := Lib.hid (valid_any l A n c _ w hR hw hm)
  rw [decide_eq_true h0] at HV
  have HC := Lib.hid (closedEuclidean_any l A n c w hR ⟨e1, relErr_rows h0⟩ (relErr_zero h0) hT)
  clear hR hw h0 hT e1
  go_enter Tryd.func15, Tryd.ntmps15
  go_wp2_with fail
  refine (HV.out).mono ?_
  rintro e w0 ⟨rfl, rfl⟩
  go_wp2_with fail
  refine (HC.out).mono ?_
  rintro e w1 ⟨⟨b, rfl, hb⟩, hw⟩
  have HH := Lib.hid (And.intro hb hw)
  clear hb hw
  go_wp2
  go_ret
  exact ⟨b, rfl, HH.out.1, HH.out.2⟩
theorem has_any (l : List Nat) (A : Option Addr) (n c : Nat) (p : Int) (w : World) (hR : Reads w w.heap.size 1 A n (us l)) (hw : Words l) (hm : n ≤ maxLen) (hT : Tab w) :
    Calls Tryd.prog 15 #[.slice A n c, .int .i64 p] w (GivesB (relErr n l = 0 ∧ HasP n p l) w) := by
  by_cases h0 : relErr n l = 0
  · by_cases hp : 1 ≤ p ∧ p ≤ 5
    · have hc : p = 1 ∨ p = 2 ∨ p = 3 ∨ p = 4 ∨ p = 5 := by omega
      rcases hc with rfl | rfl | rfl | rfl | rfl
      · exact (hasSerial_any l A n c w hR hw hm h0).mono fun _ _ h => h.congr (by rw [hasP1]; exact ⟨fun x => ⟨h0, x⟩, fun x => x.2⟩)
      · exact (hasReflexive_any l A n c w hR hw hm hT h0).mono fun _ _ h => h.congr (by rw [hasP2]; exact ⟨fun x => ⟨h0, x⟩, fun x => x.2⟩)
      · exact (hasSymmetric_any l A n c w hR hw hm hT h0).mono fun _ _ h => h.congr (by rw [hasP3]; exact ⟨fun x => ⟨h0, x⟩, fun x => x.2⟩)
      · exact (hasTransitive_any l A n c w hR hw hm hT h0).mono fun _ _ h => h.congr (by rw [hasP4]; exact ⟨fun x => ⟨h0, x⟩, fun x => x.2⟩)
      · exact (hasEuclidean_any l A n c w hR hw hm hT h0).mono fun _ _ h => h.congr (by rw [hasP5]; exact ⟨fun x => ⟨h0, x⟩, fun x => x.2⟩)
    · exact (hasOther_any l A n c p w hR hw hm h0 hp).mono fun _ _ h => h.congr ⟨False.elim, fun x => hasPno n p l hp x.2⟩
  · exact (hasNot_any l A n c p w hR hw hm h0).mono fun _ _ h => h.congr ⟨False.elim, fun x => h0 x.1⟩
end Go.Proofs.YtogjbghieoifjaaDoor
