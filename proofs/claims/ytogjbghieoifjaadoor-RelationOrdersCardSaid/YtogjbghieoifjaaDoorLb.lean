/- The law's own closure by its number; and what joins hand back, told alike on both sides. -/
import Derived.Test.YtogjbghieoifjaaDoorLa
namespace Go.Proofs.YtogjbghieoifjaaDoor
open Go.RowKit Go.Proofs.Ws
/-- a list of words, an error and a property -/
def GivesC (L : List Nat) (x p : Int) (w : World) (e : Ending) (w' : World) : Prop :=
  ∃ A m c, e = .returned (.tuple #[.slice A m c, .int .i64 x, .int .i64 p]) ∧ Reads w' w'.heap.size 1 A m (us L) ∧ Below w.heap.size w w' ∧ m ≤ 64
section
variable (l : List Nat) (A : Option Addr) (m c : Nat) (w : World) (hR : Reads w w.heap.size 1 A m (us l)) (hw : Words l) (hm : m ≤ maxLen)
include hR hw hm
theorem x_reflexive (hT : Tab w) : Calls Tryd.prog 63 #[.slice A m c] w fun e w' => ∃ L, CloX m (PRefl m) l (relErr l.length l) L ∧ GivesX L (relErr l.length l) w e w' :=
  (relReflexive_any l A m c w hR hw hm hT).mono fun _ _ h => cloX (fun h0 => (relErr64 hR.word_len h0).1) h
theorem x_symmetric (hT : Tab w) : Calls Tryd.prog 43 #[.slice A m c] w fun e w' => ∃ L, CloX m PSym l (relErr l.length l) L ∧ GivesX L (relErr l.length l) w e w' :=
  (relSymmetric_any l A m c w hR hw hm hT).mono fun _ _ h => cloX (fun h0 => (relErr64 hR.word_len h0).1) h
theorem x_transitive (hT : Tab w) : Calls Tryd.prog 41 #[.slice A m c] w fun e w' => ∃ L, CloX m PTrans l (relErr l.length l) L ∧ GivesX L (relErr l.length l) w e w' :=
  (relTransitive_any l A m c w hR hw hm hT).mono fun _ _ h => cloX (fun h0 => (relErr64 hR.word_len h0).1) h
theorem x_euclidean (hT : Tab w) : Calls Tryd.prog 42 #[.slice A m c] w fun e w' => ∃ L, CloX m PEucl l (relErr l.length l) L ∧ GivesX L (relErr l.length l) w e w' :=
  (relEuclidean_any l A m c w hR hw hm hT).mono fun _ _ h => cloX (fun h0 => (relErr64 hR.word_len h0).1) h
theorem x_refReflexive (hA : A = none → c = 0) : Calls Tryd.prog 27 #[.slice A m c] w fun e w' => ∃ L, CloX m (PRefl m) l (relErr l.length l) L ∧ GivesX L (relErr l.length l) w e w' :=
  (refReflexive_any l A m c w hR hw hm hA).mono fun _ _ h => cloX (fun h0 => (relErr64 hR.word_len h0).1) h
theorem x_refSymmetric : Calls Tryd.prog 28 #[.slice A m c] w fun e w' => ∃ L, CloX m PSym l (relErr l.length l) L ∧ GivesX L (relErr l.length l) w e w' :=
  (refSymmetric_any l A m c w hR hw hm).mono fun _ _ h => symX (fun h0 => ⟨(relErr64 hR.word_len h0).2, (relErr64 hR.word_len h0).1⟩) h
theorem x_refTransitive (hA : A = none → c = 0) : Calls Tryd.prog 29 #[.slice A m c] w fun e w' => ∃ L, CloX m PTrans l (relErr l.length l) L ∧ GivesX L (relErr l.length l) w e w' :=
  (refTransitive_any l A m c w hR hw hm hA).mono fun _ _ h => cloX (fun h0 => (relErr64 hR.word_len h0).1) h
theorem x_refEuclidean (hA : A = none → c = 0) : Calls Tryd.prog 30 #[.slice A m c] w fun e w' => ∃ L, CloX m PEucl l (relErr l.length l) L ∧ GivesX L (relErr l.length l) w e w' :=
  (refEuclidean_any l A m c w hR hw hm hA).mono fun _ _ h => cloX (fun h0 => (relErr64 hR.word_len h0).1) h
theorem law_reflexive (hT : Tab w) : Calls Tryd.prog 26 #[.slice A m c, .int .i64 0] w fun e w' => ∃ L, CloX m (PRefl m) l (relErr l.length l) L ∧ GivesC L (relErr l.length l) 2 w e w' := by
  have H := Lib.hid (x_reflexive l A m c w hR hw hm hT)
  clear hR hw hT
  go_enter Tryd.func26, Tryd.ntmps26
  go_wp2_with fail
  refine (H.out).mono ?_
  rintro e w1 ⟨L, hL, A1, m1, c1, rfl, hr, hb, h64⟩
  have HH := Lib.hid (And.intro hL (And.intro hr hb))
  clear hL hr hb
  go_wp2
  go_ret3
  exact ⟨L, HH.out.1, A1, m1, c1, rfl, HH.out.2.1, HH.out.2.2, h64⟩
theorem law_symmetric (hT : Tab w) : Calls Tryd.prog 26 #[.slice A m c, .int .i64 1] w fun e w' => ∃ L, CloX m PSym l (relErr l.length l) L ∧ GivesC L (relErr l.length l) 3 w e w' := by
  have H := Lib.hid (x_symmetric l A m c w hR hw hm hT)
  clear hR hw hT
  go_enter Tryd.func26, Tryd.ntmps26
  go_wp2_with fail
  refine (H.out).mono ?_
  rintro e w1 ⟨L, hL, A1, m1, c1, rfl, hr, hb, h64⟩
  have HH := Lib.hid (And.intro hL (And.intro hr hb))
  clear hL hr hb
  go_wp2
  go_ret3
  exact ⟨L, HH.out.1, A1, m1, c1, rfl, HH.out.2.1, HH.out.2.2, h64⟩
theorem law_transitive (hT : Tab w) : Calls Tryd.prog 26 #[.slice A m c, .int .i64 2] w fun e w' => ∃ L, CloX m PTrans l (relErr l.length l) L ∧ GivesC L (relErr l.length l) 4 w e w' := by
  have H := Lib.hid (x_transitive l A m c w hR hw hm hT)
  clear hR hw hT
  go_enter Tryd.func26, Tryd.ntmps26
  go_wp2_with fail
  refine (H.out).mono ?_
  rintro e w1 ⟨L, hL, A1, m1, c1, rfl, hr, hb, h64⟩
  have HH := Lib.hid (And.intro hL (And.intro hr hb))
  clear hL hr hb
  go_wp2
  go_ret3
  exact ⟨L, HH.out.1, A1, m1, c1, rfl, HH.out.2.1, HH.out.2.2, h64⟩
theorem law_euclidean (hT : Tab w) : Calls Tryd.prog 26 #[.slice A m c, .int .i64 3] w fun e w' => ∃ L, CloX m PEucl l (relErr l.length l) L ∧ GivesC L (relErr l.length l) 5 w e w' := by
  have H := Lib.hid (x_euclidean l A m c w hR hw hm hT)
  clear hR hw hT
  go_enter Tryd.func26, Tryd.ntmps26
  go_wp2_with fail
  refine (H.out).mono ?_
  rintro e w1 ⟨L, hL, A1, m1, c1, rfl, hr, hb, h64⟩
  have HH := Lib.hid (And.intro hL (And.intro hr hb))
  clear hL hr hb
  go_wp2
  go_ret3
  exact ⟨L, HH.out.1, A1, m1, c1, rfl, HH.out.2.1, HH.out.2.2, h64⟩
end
section
variable (R S : List Nat) (A A2 : Option Addr) (m m2 c c2 : Nat) (w : World) (hR : Reads w w.heap.size 1 A m (us R)) (hS : Reads w w.heap.size 1 A2 m2 (us S)) (hw : Words R) (hw2 : Words S) (hm : m ≤ maxLen) (hm2 : m2 ≤ maxLen)
include hR hS hw hw2 hm hm2
theorem x_compose (hT : Tab w) : Calls Tryd.prog 17 #[.slice A m c, .slice A2 m2 c2] w (GivesX (pickL (twoErr R S) (composeV R S)) (twoErr R S) w) :=
  (compose_any R S A A2 m m2 c c2 w hR hS hw hw2 hm hm2 hT).mono fun _ _ h => givesX (fun h0 => by unfold composeV; simp; exact (twoErr_zero h0).2.1) h
theorem x_union (hT : Tab w) : Calls Tryd.prog 20 #[.slice A m c, .slice A2 m2 c2] w (GivesX (pickL (twoErr R S) (unionV R S)) (twoErr R S) w) :=
  (union_any R S A A2 m m2 c c2 w hR hS hw hw2 hm hm2 hT).mono fun _ _ h => givesX (fun h0 => by unfold unionV; simp; exact (twoErr_zero h0).2.1) h
theorem x_meet (hT : Tab w) : Calls Tryd.prog 22 #[.slice A m c, .slice A2 m2 c2] w (GivesX (pickL (twoErr R S) (meetV R S)) (twoErr R S) w) :=
  (meet_any R S A A2 m m2 c c2 w hR hS hw hw2 hm hm2 hT).mono fun _ _ h => givesX (fun h0 => by unfold meetV; simp; exact (twoErr_zero h0).2.1) h
theorem x_refCompose : Calls Tryd.prog 18 #[.slice A m c, .slice A2 m2 c2] w (GivesX (pickL (twoErr R S) (composeV R S)) (twoErr R S) w) :=
  (refCompose_any R S A A2 m m2 c c2 w hR hS hw hw2 hm hm2).mono fun _ _ h => givesX (fun h0 => by unfold composeV; simp; exact (twoErr_zero h0).2.1) h
theorem x_refUnion : Calls Tryd.prog 21 #[.slice A m c, .slice A2 m2 c2] w (GivesX (pickL (twoErr R S) (unionV R S)) (twoErr R S) w) :=
  (refUnion_any R S A A2 m m2 c c2 w hR hS hw hw2 hm hm2).mono fun _ _ h => givesX (fun h0 => by unfold unionV; simp; exact (twoErr_zero h0).2.1) h
theorem x_refMeet : Calls Tryd.prog 23 #[.slice A m c, .slice A2 m2 c2] w (GivesX (pickL (twoErr R S) (meetV R S)) (twoErr R S) w) :=
  (refMeet_any R S A A2 m m2 c c2 w hR hS hw hw2 hm hm2).mono fun _ _ h => givesX (fun h0 => by unfold meetV; simp; exact (twoErr_zero h0).2.1) h
end
theorem x_converse (R : List Nat) (A : Option Addr) (m c : Nat) (w : World) (hR : Reads w w.heap.size 1 A m (us R)) (hw : Words R) (hm : m ≤ maxLen) (hT : Tab w) : Calls Tryd.prog 24 #[.slice A m c] w (GivesX (pickL (relErr R.length R) (convV R)) (relErr R.length R) w) :=
  (converse_any R A m c w hR hw hm hT).mono fun _ _ h => givesX (fun h0 => by rw [conv_len]; exact relErr_zero h0) h
theorem x_refConverse (R : List Nat) (A : Option Addr) (m c : Nat) (w : World) (hR : Reads w w.heap.size 1 A m (us R)) (hw : Words R) (hm : m ≤ maxLen) : Calls Tryd.prog 25 #[.slice A m c] w (GivesX (pickL (relErr R.length R) (convV R)) (relErr R.length R) w) :=
  (refConverse_any R A m c w hR hw hm).mono fun _ _ h => givesX (fun h0 => by rw [conv_len]; exact relErr_zero h0) h
end Go.Proofs.YtogjbghieoifjaaDoor
