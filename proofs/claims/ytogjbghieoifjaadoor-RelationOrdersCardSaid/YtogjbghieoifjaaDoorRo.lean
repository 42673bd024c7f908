/- Contracts of layer 2: closed, closure and the closures, at each of the steps but the euclidean one. -/
import Derived.Test.YtogjbghieoifjaaDoorRn
namespace Go.Proofs.YtogjbghieoifjaaDoor
open Go.RowKit Go.Proofs.Ws
set_option maxRecDepth 100000 in
theorem closedReflexive_any (l : List Nat) (A : Option Addr) (n c : Nat) (w : World) (hR : Reads w w.heap.size 1 A n (us l)) (hS : Sh n l) (hn : n ≤ 64) (hT : Tab w) :
    Calls Tryd.prog 48 #[.slice A n c, .func (.func 49) #[] #[]] w fun e w' => (∃ b : Bool, e = .returned (.bool b) ∧ (b = true ↔ (PRefl n) l)) ∧ Below w.heap.size w w' := by
  have HE := Lib.hid (extendReflexive_any l A n c w hR hS hn hT)
  have HR := Lib.hid hR
  have HF := Lib.hid (((reflL_steps n)).run_fixed hS)
  clear hR hS hT
  go_enter Tryd.func48, Tryd.ntmps48
  go_wp2_with fail
  refine (HE.out).mono ?_
  rintro e w1 ⟨A1, c1, rfl, hR1, hb1⟩
  have HQ := Lib.hid (equal_any (run reflL l n) l A1 A n n c1 c w1.heap.size w1 hR1 ((HR.out.below hb1).more hb1.size) (by unfold maxLen; omega) (by unfold maxLen; omega))
  have HB := Lib.hid hb1
  clear hR1 hb1
  go_wp2_with fail
  refine (HQ.out).mono ?_
  rintro e w2 ⟨rfl, q, rfl⟩
  go_wp2
  go_ret
  exact ⟨⟨_, rfl, by rw [decide_eq_true_eq]; exact HF.out⟩, below_drewN HB.out q⟩
set_option maxRecDepth 100000 in
theorem closureReflexive_any (l : List Nat) (A : Option Addr) (n c : Nat) (w : World) (hR : Reads w w.heap.size 1 A n (us l)) (hw : Words l) (hm : n ≤ maxLen) (hT : Tab w) :
    Calls Tryd.prog 72 #[.slice A n c, .func (.func 49) #[] #[]] w fun e w' => (relErr l.length l = 0 ∧ ∃ C, IsClo n (PRefl n) l C ∧ GivesR C w e w') ∨ (relErr l.length l ≠ 0 ∧ GivesE (relErr l.length l) w e w') := by
  have e1 := hR.word_len
  have HK := Lib.hid (check_any n l A n c _ w hR hw hm)
  have E1 := Lib.hid e1
  have HR := Lib.hid hR
  have HT := Lib.hid hT
  rw [e1]
  clear hR hw hm hT e1
  by_cases h0 : relErr n l = 0
  · have hn : n ≤ 64 := relErr_zero h0
    have HS : Hid (Sh n l) := Lib.hid ⟨E1.out, relErr_rows h0⟩
    have HSTEPS := Lib.hid (reflL_steps n)
    rw [h0] at HK
    have H0 := Lib.hid h0
    clear h0
    have HC := Lib.hid (clone_any l A n c w HR.out hn)
    go_enter Tryd.func72, Tryd.ntmps72
    go_wp2_with fail
    refine (HK.out).mono ?_
    rintro e w0 ⟨rfl, rfl⟩
    go_wp2_with fail
    refine (HC.out).mono ?_
    rintro e w1 ⟨A1, c1, rfl, hg, hb⟩
    have hR1 : Reads w1 w1.heap.size 1 A1 n (us l) := by
      by_cases hn0 : n = 0
      · subst hn0; exact ⟨by simp [us, HS.out.1], fun h => absurd h (by omega)⟩
      · obtain ⟨g, rfl, _, hH⟩ := hg (by omega)
        have := hH.reads
        rwa [HS.out.1] at this
    have HX := Lib.hid (extendReflexive_any l A1 n c1 w1 hR1 HS.out hn (HT.out.below hb))
    have HB := Lib.hid hb
    have HR1 := Lib.hid hR1
    clear hg hb hR1
    go_wp2_with fail
    refine (HX.out).mono ?_
    rintro e w2 ⟨A2, c2, rfl, hR2, hb2⟩
    have HI0 : Hid (Reads w2 w2.heap.size 1 A1 n (us l) ∧ Reads w2 w2.heap.size 1 A2 n (us (run reflL l n)) ∧ Mid n (PRefl n) l l ∧ Below w.heap.size w w2) := Lib.hid ⟨(HR1.out.below hb2).more hb2.size, hR2, Mid.start HS.out, HB.out.trans (hb2.mono HB.out.size)⟩
    clear hR2 hb2
    go_wp2
    go_loopw [7, 8] (fun i j wr => ∃ (x : List Nat) (A1 A2 : Option Addr) (c1 c2 : Nat), i = .slice A1 n c1 ∧ j = .slice A2 n c2 ∧ Hid (Reads wr wr.heap.size 1 A1 n (us x) ∧ Reads wr wr.heap.size 1 A2 n (us (run reflL x n)) ∧ Mid n (PRefl n) l x ∧ Below w.heap.size w wr)) (fun i _ wr => 64 * n - wt (rdL wr i))
    case atStart => exact ⟨l, A1, A2, c1, c2, rfl, rfl, HI0⟩
    case round =>
      obtain ⟨x, A1, A2, c1, c2, rfl, rfl, HI⟩ := hrel
      have HQ := Lib.hid (equal_any (run reflL x n) x A2 A1 n n c2 c1 wr.heap.size wr HI.out.2.1 HI.out.1 (by unfold maxLen; omega) (by unfold maxLen; omega))
      by_cases hq : run reflL x n = x
      · rw [decide_eq_true hq] at HQ
        have HF := Lib.hid hq
        clear hq
        go_wp2_with fail
        refine (HQ.out).mono ?_
        rintro e w3 ⟨rfl, q, rfl⟩
        go_wp2
        go_ret2
        refine Or.inl ⟨H0.out, x, HI.out.2.2.1.done HSTEPS.out HF.out, A1, c1, ?_, ?_, below_drewN HI.out.2.2.2 q⟩
        · rw [HI.out.2.2.1.sh.1]; rfl
        · rw [HI.out.2.2.1.sh.1]; exact HI.out.1.drewN q
      · rw [decide_eq_false hq] at HQ
        have HM := Lib.hid (HI.out.2.2.1.more HSTEPS.out hn hq)
        clear hq
        go_wp2_with fail
        refine (HQ.out).mono ?_
        rintro e w3 ⟨rfl, q, rfl⟩
        have HX := Lib.hid (extendReflexive_any (run reflL x n) A2 n c2 (wr.drewN q) (HI.out.2.1.drewN q) (HI.out.2.2.1.next HSTEPS.out).sh hn (HT.out.below (below_drewN HI.out.2.2.2 q)))
        go_wp2_with fail
        refine (HX.out).mono ?_
        rintro e w4 ⟨A3, c3, rfl, hR3, hb3⟩
        have hb4 : Below (wr.drewN q).heap.size wr w4 := ((below_drewN (Below.refl _ _) q)).trans hb3
        have HR4 : Hid (Reads w4 w4.heap.size 1 A2 n (us (run reflL x n))) := Lib.hid ((HI.out.2.1.below hb4).more hb4.size)
        have HI2 : Hid (Reads w4 w4.heap.size 1 A2 n (us (run reflL x n)) ∧ Reads w4 w4.heap.size 1 A3 n (us (run reflL (run reflL x n) n)) ∧ Mid n (PRefl n) l (run reflL x n) ∧ Below w.heap.size w w4) := Lib.hid ⟨HR4.out, hR3, HI.out.2.2.1.next HSTEPS.out, HI.out.2.2.2.trans (hb4.mono HI.out.2.2.2.size)⟩
        clear hR3 hb3 hb4
        go_wp2
        go_roundw
        case rel => exact ⟨run reflL x n, A2, A3, c2, c3, rfl, rfl, HI2⟩
        case measure =>
          rw [rdL_reads HI.out.1, rdL_reads HR4.out]
          have := HM.out
          omega
  · have hne : (relErr n l != 0) = true := by simp [h0]
    have H0 := Lib.hid h0
    clear h0
    go_enter Tryd.func72, Tryd.ntmps72
    go_wp2_with fail
    refine (HK.out).mono ?_
    rintro e w0 ⟨rfl, rfl⟩
    go_wp2
    go_ret2
    exact Or.inr ⟨H0.out, rfl, Below.refl _ _⟩
theorem relReflexive_any (l : List Nat) (A : Option Addr) (n c : Nat) (w : World) (hR : Reads w w.heap.size 1 A n (us l)) (hw : Words l) (hm : n ≤ maxLen) (hT : Tab w) :
    Calls Tryd.prog 63 #[.slice A n c] w fun e w' => (relErr l.length l = 0 ∧ ∃ C, IsClo n (PRefl n) l C ∧ GivesR C w e w') ∨ (relErr l.length l ≠ 0 ∧ GivesE (relErr l.length l) w e w') := by
  have H := Lib.hid (closureReflexive_any l A n c w hR hw hm hT)
  clear hR hw hT
  go_enter Tryd.func63, Tryd.ntmps63
  go_wp2_with fail
  refine (H.out).mono ?_
  rintro e w1 (⟨h0, C, hC, A1, c1, rfl, hR1, hb1⟩ | ⟨h0, rfl, hb1⟩)
  · have HH := Lib.hid (And.intro h0 (And.intro hC (And.intro hR1 hb1)))
    clear h0 hC hR1 hb1
    go_wp2
    go_ret2
    exact Or.inl ⟨HH.out.1, C, HH.out.2.1, A1, c1, rfl, HH.out.2.2.1, HH.out.2.2.2⟩
  · have HH := Lib.hid (And.intro h0 hb1)
    clear h0 hb1
    go_wp2
    go_ret2
    exact Or.inr ⟨HH.out.1, rfl, HH.out.2⟩
set_option maxRecDepth 100000 in
theorem closedTransitive_any (l : List Nat) (A : Option Addr) (n c : Nat) (w : World) (hR : Reads w w.heap.size 1 A n (us l)) (hS : Sh n l) (hn : n ≤ 64) (hT : Tab w) :
    Calls Tryd.prog 48 #[.slice A n c, .func (.func 51) #[] #[]] w fun e w' => (∃ b : Bool, e = .returned (.bool b) ∧ (b = true ↔ PTrans l)) ∧ Below w.heap.size w w' := by
  have HE := Lib.hid (extendTransitive_any l A n c w hR hS hn hT)
  have HR := Lib.hid hR
  have HF := Lib.hid (((transL_steps n hn)).run_fixed hS)
  clear hR hS hT
  go_enter Tryd.func48, Tryd.ntmps48
  go_wp2_with fail
  refine (HE.out).mono ?_
  rintro e w1 ⟨A1, c1, rfl, hR1, hb1⟩
  have HQ := Lib.hid (equal_any (run transL l n) l A1 A n n c1 c w1.heap.size w1 hR1 ((HR.out.below hb1).more hb1.size) (by unfold maxLen; omega) (by unfold maxLen; omega))
  have HB := Lib.hid hb1
  clear hR1 hb1
  go_wp2_with fail
  refine (HQ.out).mono ?_
  rintro e w2 ⟨rfl, q, rfl⟩
  go_wp2
  go_ret
  exact ⟨⟨_, rfl, by rw [decide_eq_true_eq]; exact HF.out⟩, below_drewN HB.out q⟩
set_option maxRecDepth 100000 in
theorem closureTransitive_any (l : List Nat) (A : Option Addr) (n c : Nat) (w : World) (hR : Reads w w.heap.size 1 A n (us l)) (hw : Words l) (hm : n ≤ maxLen) (hT : Tab w) :
    Calls Tryd.prog 72 #[.slice A n c, .func (.func 51) #[] #[]] w fun e w' => (relErr l.length l = 0 ∧ ∃ C, IsClo n PTrans l C ∧ GivesR C w e w') ∨ (relErr l.length l ≠ 0 ∧ GivesE (relErr l.length l) w e w') := by
  have e1 := hR.word_len
  have HK := Lib.hid (check_any n l A n c _ w hR hw hm)
  have E1 := Lib.hid e1
  have HR := Lib.hid hR
  have HT := Lib.hid hT
  rw [e1]
  clear hR hw hm hT e1
  by_cases h0 : relErr n l = 0
  · have hn : n ≤ 64 := relErr_zero h0
    have HS : Hid (Sh n l) := Lib.hid ⟨E1.out, relErr_rows h0⟩
    have HSTEPS := Lib.hid (transL_steps n hn)
    rw [h0] at HK
    have H0 := Lib.hid h0
    clear h0
    have HC := Lib.hid (clone_any l A n c w HR.out hn)
    go_enter Tryd.func72, Tryd.ntmps72
    go_wp2_with fail
    refine (HK.out).mono ?_
    rintro e w0 ⟨rfl, rfl⟩
    go_wp2_with fail
    refine (HC.out).mono ?_
    rintro e w1 ⟨A1, c1, rfl, hg, hb⟩
    have hR1 : Reads w1 w1.heap.size 1 A1 n (us l) := by
      by_cases hn0 : n = 0
      · subst hn0; exact ⟨by simp [us, HS.out.1], fun h => absurd h (by omega)⟩
      · obtain ⟨g, rfl, _, hH⟩ := hg (by omega)
        have := hH.reads
        rwa [HS.out.1] at this
    have HX := Lib.hid (extendTransitive_any l A1 n c1 w1 hR1 HS.out hn (HT.out.below hb))
    have HB := Lib.hid hb
    have HR1 := Lib.hid hR1
    clear hg hb hR1
    go_wp2_with fail
    refine (HX.out).mono ?_
    rintro e w2 ⟨A2, c2, rfl, hR2, hb2⟩
    have HI0 : Hid (Reads w2 w2.heap.size 1 A1 n (us l) ∧ Reads w2 w2.heap.size 1 A2 n (us (run transL l n)) ∧ Mid n PTrans l l ∧ Below w.heap.size w w2) := Lib.hid ⟨(HR1.out.below hb2).more hb2.size, hR2, Mid.start HS.out, HB.out.trans (hb2.mono HB.out.size)⟩
    clear hR2 hb2
    go_wp2
    go_loopw [7, 8] (fun i j wr => ∃ (x : List Nat) (A1 A2 : Option Addr) (c1 c2 : Nat), i = .slice A1 n c1 ∧ j = .slice A2 n c2 ∧ Hid (Reads wr wr.heap.size 1 A1 n (us x) ∧ Reads wr wr.heap.size 1 A2 n (us (run transL x n)) ∧ Mid n PTrans l x ∧ Below w.heap.size w wr)) (fun i _ wr => 64 * n - wt (rdL wr i))
    case atStart => exact ⟨l, A1, A2, c1, c2, rfl, rfl, HI0⟩
    case round =>
      obtain ⟨x, A1, A2, c1, c2, rfl, rfl, HI⟩ := hrel
      have HQ := Lib.hid (equal_any (run transL x n) x A2 A1 n n c2 c1 wr.heap.size wr HI.out.2.1 HI.out.1 (by unfold maxLen; omega) (by unfold maxLen; omega))
      by_cases hq : run transL x n = x
      · rw [decide_eq_true hq] at HQ
        have HF := Lib.hid hq
        clear hq
        go_wp2_with fail
        refine (HQ.out).mono ?_
        rintro e w3 ⟨rfl, q, rfl⟩
        go_wp2
        go_ret2
        refine Or.inl ⟨H0.out, x, HI.out.2.2.1.done HSTEPS.out HF.out, A1, c1, ?_, ?_, below_drewN HI.out.2.2.2 q⟩
        · rw [HI.out.2.2.1.sh.1]; rfl
        · rw [HI.out.2.2.1.sh.1]; exact HI.out.1.drewN q
      · rw [decide_eq_false hq] at HQ
        have HM := Lib.hid (HI.out.2.2.1.more HSTEPS.out hn hq)
        clear hq
        go_wp2_with fail
        refine (HQ.out).mono ?_
        rintro e w3 ⟨rfl, q, rfl⟩
        have HX := Lib.hid (extendTransitive_any (run transL x n) A2 n c2 (wr.drewN q) (HI.out.2.1.drewN q) (HI.out.2.2.1.next HSTEPS.out).sh hn (HT.out.below (below_drewN HI.out.2.2.2 q)))
        go_wp2_with fail
        refine (HX.out).mono ?_
        rintro e w4 ⟨A3, c3, rfl, hR3, hb3⟩
        have hb4 : Below (wr.drewN q).heap.size wr w4 := ((below_drewN (Below.refl _ _) q)).trans hb3
        have HR4 : Hid (Reads w4 w4.heap.size 1 A2 n (us (run transL x n))) := Lib.hid ((HI.out.2.1.below hb4).more hb4.size)
        have HI2 : Hid (Reads w4 w4.heap.size 1 A2 n (us (run transL x n)) ∧ Reads w4 w4.heap.size 1 A3 n (us (run transL (run transL x n) n)) ∧ Mid n PTrans l (run transL x n) ∧ Below w.heap.size w w4) := Lib.hid ⟨HR4.out, hR3, HI.out.2.2.1.next HSTEPS.out, HI.out.2.2.2.trans (hb4.mono HI.out.2.2.2.size)⟩
        clear hR3 hb3 hb4
        go_wp2
        go_roundw
        case rel => exact ⟨run transL x n, A2, A3, c2, c3, rfl, rfl, HI2⟩
        case measure =>
          rw [rdL_reads HI.out.1, rdL_reads HR4.out]
          have := HM.out
          omega
  · have hne : (relErr n l != 0) = true := by simp [h0]
    have H0 := Lib.hid h0
    clear h0
    go_enter Tryd.func72, Tryd.ntmps72
    go_wp2_with fail
    refine (HK.out).mono ?_
    rintro e w0 ⟨rfl, rfl⟩
    go_wp2
    go_ret2
    exact Or.inr ⟨H0.out, rfl, Below.refl _ _⟩
theorem relTransitive_any (l : List Nat) (A : Option Addr) (n c : Nat) (w : World) (hR : Reads w w.heap.size 1 A n (us l)) (hw : Words l) (hm : n ≤ maxLen) (hT : Tab w) :
    Calls Tryd.prog 41 #[.slice A n c] w fun e w' => (relErr l.length l = 0 ∧ ∃ C, IsClo n PTrans l C ∧ GivesR C w e w') ∨ (relErr l.length l ≠ 0 ∧ GivesE (relErr l.length l) w e w') := by
  have H := Lib.hid (closureTransitive_any l A n c w hR hw hm hT)
  clear hR hw hT
  go_enter Tryd.func41, Tryd.ntmps41
  go_wp2_with fail
  refine (H.out).mono ?_
  rintro e w1 (⟨h0, C, hC, A1, c1, rfl, hR1, hb1⟩ | ⟨h0, rfl, hb1⟩)
  · have HH := Lib.hid (And.intro h0 (And.intro hC (And.intro hR1 hb1)))
    clear h0 hC hR1 hb1
    go_wp2
    go_ret2
    exact Or.inl ⟨HH.out.1, C, HH.out.2.1, A1, c1, rfl, HH.out.2.2.1, HH.out.2.2.2⟩
  · have HH := Lib.hid (And.intro h0 hb1)
    clear h0 hb1
    go_wp2
    go_ret2
    exact Or.inr ⟨HH.out.1, rfl, HH.out.2⟩
set_option maxRecDepth 100000 in
theorem closedSymmetric_any (l : List Nat) (A : Option Addr) (n c : Nat) (w : World) (hR : Reads w w.heap.size 1 A n (us l)) (hS : Sh n l) (hn : n ≤ 64) (hT : Tab w) :
    Calls Tryd.prog 48 #[.slice A n c, .func (.func 50) #[] #[]] w fun e w' => (∃ b : Bool, e = .returned (.bool b) ∧ (b = true ↔ PSym l)) ∧ Below w.heap.size w w' := by
  have HE := Lib.hid (extendSymmetric_any l A n c w hR hS hn hT)
  have HR := Lib.hid hR
  have HF := Lib.hid (((symL_steps n)).run_fixed hS)
  clear hR hS hT
  go_enter Tryd.func48, Tryd.ntmps48
  go_wp2_with fail
  refine (HE.out).mono ?_
  rintro e w1 ⟨A1, c1, rfl, hR1, hb1⟩
  have HQ := Lib.hid (equal_any (run (fun l k => symL l k n) l n) l A1 A n n c1 c w1.heap.size w1 hR1 ((HR.out.below hb1).more hb1.size) (by unfold maxLen; omega) (by unfold maxLen; omega))
  have HB := Lib.hid hb1
  clear hR1 hb1
  go_wp2_with fail
  refine (HQ.out).mono ?_
  rintro e w2 ⟨rfl, q, rfl⟩
  go_wp2
  go_ret
  exact ⟨⟨_, rfl, by rw [decide_eq_true_eq]; exact HF.out⟩, below_drewN HB.out q⟩
set_option maxRecDepth 100000 in
theorem closureSymmetric_any (l : List Nat) (A : Option Addr) (n c : Nat) (w : World) (hR : Reads w w.heap.size 1 A n (us l)) (hw : Words l) (hm : n ≤ maxLen) (hT : Tab w) :
    Calls Tryd.prog 72 #[.slice A n c, .func (.func 50) #[] #[]] w fun e w' => (relErr l.length l = 0 ∧ ∃ C, IsClo n PSym l C ∧ GivesR C w e w') ∨ (relErr l.length l ≠ 0 ∧ GivesE (relErr l.length l) w e w') := by
  have e1 := hR.word_len
  have HK := Lib.hid (check_any n l A n c _ w hR hw hm)
  have E1 := Lib.hid e1
  have HR := Lib.hid hR
  have HT := Lib.hid hT
  rw [e1]
  clear hR hw hm hT e1
  by_cases h0 : relErr n l = 0
  · have hn : n ≤ 64 := relErr_zero h0
    have HS : Hid (Sh n l) := Lib.hid ⟨E1.out, relErr_rows h0⟩
    have HSTEPS := Lib.hid (symL_steps n)
    rw [h0] at HK
    have H0 := Lib.hid h0
    clear h0
    have HC := Lib.hid (clone_any l A n c w HR.out hn)
    go_enter Tryd.func72, Tryd.ntmps72
    go_wp2_with fail
    refine (HK.out).mono ?_
    rintro e w0 ⟨rfl, rfl⟩
    go_wp2_with fail
    refine (HC.out).mono ?_
    rintro e w1 ⟨A1, c1, rfl, hg, hb⟩
    have hR1 : Reads w1 w1.heap.size 1 A1 n (us l) := by
      by_cases hn0 : n = 0
      · subst hn0; exact ⟨by simp [us, HS.out.1], fun h => absurd h (by omega)⟩
      · obtain ⟨g, rfl, _, hH⟩ := hg (by omega)
        have := hH.reads
        rwa [HS.out.1] at this
    have HX := Lib.hid (extendSymmetric_any l A1 n c1 w1 hR1 HS.out hn (HT.out.below hb))
    have HB := Lib.hid hb
    have HR1 := Lib.hid hR1
    clear hg hb hR1
    go_wp2_with fail
    refine (HX.out).mono ?_
    rintro e w2 ⟨A2, c2, rfl, hR2, hb2⟩
    have HI0 : Hid (Reads w2 w2.heap.size 1 A1 n (us l) ∧ Reads w2 w2.heap.size 1 A2 n (us (run (fun l k => symL l k n) l n)) ∧ Mid n PSym l l ∧ Below w.heap.size w w2) := Lib.hid ⟨(HR1.out.below hb2).more hb2.size, hR2, Mid.start HS.out, HB.out.trans (hb2.mono HB.out.size)⟩
    clear hR2 hb2
    go_wp2
    go_loopw [7, 8] (fun i j wr => ∃ (x : List Nat) (A1 A2 : Option Addr) (c1 c2 : Nat), i = .slice A1 n c1 ∧ j = .slice A2 n c2 ∧ Hid (Reads wr wr.heap.size 1 A1 n (us x) ∧ Reads wr wr.heap.size 1 A2 n (us (run (fun l k => symL l k n) x n)) ∧ Mid n PSym l x ∧ Below w.heap.size w wr)) (fun i _ wr => 64 * n - wt (rdL wr i))
    case atStart => exact ⟨l, A1, A2, c1, c2, rfl, rfl, HI0⟩
    case round =>
      obtain ⟨x, A1, A2, c1, c2, rfl, rfl, HI⟩ := hrel
      have HQ := Lib.hid (equal_any (run (fun l k => symL l k n) x n) x A2 A1 n n c2 c1 wr.heap.size wr HI.out.2.1 HI.out.1 (by unfold maxLen; omega) (by unfold maxLen; omega))
      by_cases hq : run (fun l k => symL l k n) x n = x
      · rw [decide_eq_true hq] at HQ
        have HF := Lib.hid hq
        clear hq
        go_wp2_with fail
        refine (HQ.out).mono ?_
        rintro e w3 ⟨rfl, q, rfl⟩
        go_wp2
        go_ret2
        refine Or.inl ⟨H0.out, x, HI.out.2.2.1.done HSTEPS.out HF.out, A1, c1, ?_, ?_, below_drewN HI.out.2.2.2 q⟩
        · rw [HI.out.2.2.1.sh.1]; rfl
        · rw [HI.out.2.2.1.sh.1]; exact HI.out.1.drewN q
      · rw [decide_eq_false hq] at HQ
        have HM := Lib.hid (HI.out.2.2.1.more HSTEPS.out hn hq)
        clear hq
        go_wp2_with fail
        refine (HQ.out).mono ?_
        rintro e w3 ⟨rfl, q, rfl⟩
        have HX := Lib.hid (extendSymmetric_any (run (fun l k => symL l k n) x n) A2 n c2 (wr.drewN q) (HI.out.2.1.drewN q) (HI.out.2.2.1.next HSTEPS.out).sh hn (HT.out.below (below_drewN HI.out.2.2.2 q)))
        go_wp2_with fail
        refine (HX.out).mono ?_
        rintro e w4 ⟨A3, c3, rfl, hR3, hb3⟩
        have hb4 : Below (wr.drewN q).heap.size wr w4 := ((below_drewN (Below.refl _ _) q)).trans hb3
        have HR4 : Hid (Reads w4 w4.heap.size 1 A2 n (us (run (fun l k => symL l k n) x n))) := Lib.hid ((HI.out.2.1.below hb4).more hb4.size)
        have HI2 : Hid (Reads w4 w4.heap.size 1 A2 n (us (run (fun l k => symL l k n) x n)) ∧ Reads w4 w4.heap.size 1 A3 n (us (run (fun l k => symL l k n) (run (fun l k => symL l k n) x n) n)) ∧ Mid n PSym l (run (fun l k => symL l k n) x n) ∧ Below w.heap.size w w4) := Lib.hid ⟨HR4.out, hR3, HI.out.2.2.1.next HSTEPS.out, HI.out.2.2.2.trans (hb4.mono HI.out.2.2.2.size)⟩
        clear hR3 hb3 hb4
        go_wp2
        go_roundw
        case rel => exact ⟨run (fun l k => symL l k n) x n, A2, A3, c2, c3, rfl, rfl, HI2⟩
        case measure =>
          rw [rdL_reads HI.out.1, rdL_reads HR4.out]
          have := HM.out
          omega
  · have hne : (relErr n l != 0) = true := by simp [h0]
    have H0 := Lib.hid h0
    clear h0
    go_enter Tryd.func72, Tryd.ntmps72
    go_wp2_with fail
    refine (HK.out).mono ?_
    rintro e w0 ⟨rfl, rfl⟩
    go_wp2
    go_ret2
    exact Or.inr ⟨H0.out, rfl, Below.refl _ _⟩
theorem relSymmetric_any (l : List Nat) (A : Option Addr) (n c : Nat) (w : World) (hR : Reads w w.heap.size 1 A n (us l)) (hw : Words l) (hm : n ≤ maxLen) (hT : Tab w) :
    Calls Tryd.prog 43 #[.slice A n c] w fun e w' => (relErr l.length l = 0 ∧ ∃ C, IsClo n PSym l C ∧ GivesR C w e w') ∨ (relErr l.length l ≠ 0 ∧ GivesE (relErr l.length l) w e w') := by
  have H := Lib.hid (closureSymmetric_any l A n c w hR hw hm hT)
  clear hR hw hT
  go_enter Tryd.func43, Tryd.ntmps43
  go_wp2_with fail
  refine (H.out).mono ?_
  rintro e w1 (⟨h0, C, hC, A1, c1, rfl, hR1, hb1⟩ | ⟨h0, rfl, hb1⟩)
  · have HH := Lib.hid (And.intro h0 (And.intro hC (And.intro hR1 hb1)))
    clear h0 hC hR1 hb1
    go_wp2
    go_ret2
    exact Or.inl ⟨HH.out.1, C, HH.out.2.1, A1, c1, rfl, HH.out.2.2.1, HH.out.2.2.2⟩
  · have HH := Lib.hid (And.intro h0 hb1)
    clear h0 hb1
    go_wp2
    go_ret2
    exact Or.inr ⟨HH.out.1, rfl, HH.out.2⟩
end Go.Proofs.YtogjbghieoifjaaDoor
