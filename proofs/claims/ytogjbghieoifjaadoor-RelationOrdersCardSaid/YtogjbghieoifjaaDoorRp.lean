/- Contracts of layer 2: extend, closed, closure and the euclidean closure. -/
import Derived.Test.YtogjbghieoifjaaDoorRo
import Derived.Test.YtogjbghieoifjaaDoorRm
namespace Go.Proofs.YtogjbghieoifjaaDoor
open Go.RowKit Go.Proofs.Ws
set_option maxRecDepth 100000 in
theorem extendEuclidean_any (l : List Nat) (A : Option Addr) (n c : Nat) (w : World) (hR : Reads w w.heap.size 1 A n (us l)) (hS : Sh n l) (hn : n ≤ 64) (hT : Tab w) :
    Calls Tryd.prog 75 #[.slice A n c, .func (.func 52) #[] #[]] w fun e w' => ∃ A' c', e = .returned (.slice A' n c') ∧ Reads w' w'.heap.size 1 A' n (us (run (fun l k => euclL l k n) l n)) ∧ Below w.heap.size w w' := by
  have HC := Lib.hid (clone_any l A n c w hR hn)
  have HS := Lib.hid hS
  have HT := Lib.hid hT
  clear hR hS hT
  go_enter Tryd.func75, Tryd.ntmps75
  go_wp2_with fail
  refine (HC.out).mono ?_
  rintro e w1 ⟨A1, c1, rfl, hg, hb⟩
  have HG := Lib.hid hg
  have HB := Lib.hid hb
  clear hg hb
  by_cases hn0 : n = 0
  · subst hn0
    go_wp2
    go_loopw [11] (fun i wr => i = .int .i64 ((0 : Nat) : Int) ∧ wr = w1) (fun i _ => 0 - (intOf i).toNat)
    case atStart => exact ⟨rfl, rfl⟩
    case round =>
      obtain ⟨rfl, rfl⟩ := hrel
      go_wp2
      go_ret
      exact ⟨A1, c1, rfl, ⟨by simp [run, us, HS.out.1], fun h => absurd h (by omega)⟩, HB.out⟩
  · obtain ⟨g, rfl, hg1, hH1⟩ := HG.out (by omega)
    have HG1 := Lib.hid hg1
    have HH1 := Lib.hid hH1
    clear hg1 hH1 HG
    have hg0 : 0 < g := by have := HG1.out; have := HT.out.2; omega
    have HG0 := Lib.hid hg0
    clear hg0
    have HSTEPS := Lib.hid (euclL_steps n)
    go_wp2
    go_loopw [11] (fun i wr => ∃ k : Nat, k ≤ n ∧ i = .int .i64 k ∧ Hid (HoldsP wr g (run (fun l k => euclL l k n) l k) ∧ BelowBut w1.heap.size g w1 wr)) (fun i _ => n - (intOf i).toNat)
    case atStart => exact ⟨0, Nat.zero_le _, rfl, Lib.hid ⟨HH1.out, BelowBut.refl _ _ _⟩⟩
    case round =>
      obtain ⟨k, hk, rfl, HI⟩ := hrel
      by_cases hlt : k < n
      · have HW : Hid (Calls Tryd.prog 52 #[.slice (some ⟨g, 0, none⟩) n c1, .int .i64 k] wr fun e w' => e = .returned (.tuple #[]) ∧ HoldsP w' g (run (fun l k => euclL l k n) l (k + 1)) ∧ BelowBut w1.heap.size g w1 w') := Lib.hid (by
          have hH := HI.out.1
          have hB := HI.out.2
          have hS := (HSTEPS.out.run_sh HS.out k (by omega)).1
          have hT : Tab wr := HT.out.below (HB.out.trans ((hB.mono HB.out.size).below HG1.out))
          have hg0 := HG0.out
          have hk := hlt
          generalize hL : run (fun l k => euclL l k n) l k = L at hH hS
          refine (stepEuclidean_any L g n c1 k wr hH (sh_words hn hS) hS.2 hS.1 hk hn hT hg0).mono ?_
          rintro e w' ⟨he, h1, h2⟩
          refine ⟨he, ?_, hB.trans (h2.mono hB.size)⟩
          rw [run_succ, hL]
          exact h1)
        clear HI
        go_wp2_with fail
        refine (HW.out).mono ?_
        rintro e w2 ⟨rfl, h1, h2⟩
        have H2 := Lib.hid (And.intro h1 h2)
        clear h1 h2 HW
        go_wp2
        go_roundw
        case rel => exact ⟨k + 1, by omega, by go_num, H2⟩
        case measure => simp [intOf]; omega
      · have hkn : n = k := by omega
        subst hkn
        go_wp2
        go_ret
        have hl : (run (fun l k => euclL l k n) l n).length = n := (HSTEPS.out.run_sh HS.out n (Nat.le_refl _)).1.1
        refine ⟨_, c1, rfl, ?_, HB.out.trans ((HI.out.2.mono HB.out.size).below HG1.out)⟩
        have := HI.out.1.reads
        rw [hl] at this
        exact this
set_option maxRecDepth 100000 in
theorem closedEuclidean_any (l : List Nat) (A : Option Addr) (n c : Nat) (w : World) (hR : Reads w w.heap.size 1 A n (us l)) (hS : Sh n l) (hn : n ≤ 64) (hT : Tab w) :
    Calls Tryd.prog 48 #[.slice A n c, .func (.func 52) #[] #[]] w fun e w' => (∃ b : Bool, e = .returned (.bool b) ∧ (b = true ↔ PEucl l)) ∧ Below w.heap.size w w' := by
  have HE := Lib.hid (extendEuclidean_any l A n c w hR hS hn hT)
  have HR := Lib.hid hR
  have HF := Lib.hid (((euclL_steps n)).run_fixed hS)
  clear hR hS hT
  go_enter Tryd.func48, Tryd.ntmps48
  go_wp2_with fail
  refine (HE.out).mono ?_
  rintro e w1 ⟨A1, c1, rfl, hR1, hb1⟩
  have HQ := Lib.hid (equal_any (run (fun l k => euclL l k n) l n) l A1 A n n c1 c w1.heap.size w1 hR1 ((HR.out.below hb1).more hb1.size) (by unfold maxLen; omega) (by unfold maxLen; omega))
  have HB := Lib.hid hb1
  clear hR1 hb1
  go_wp2_with fail
  refine (HQ.out).mono ?_
  rintro e w2 ⟨rfl, q, rfl⟩
  go_wp2
  go_ret
  exact ⟨⟨_, rfl, by rw [decide_eq_true_eq]; exact HF.out⟩, below_drewN HB.out q⟩
set_option maxRecDepth 100000 in
theorem closureEuclidean_any (l : List Nat) (A : Option Addr) (n c : Nat) (w : World) (hR : Reads w w.heap.size 1 A n (us l)) (hw : Words l) (hm : n ≤ maxLen) (hT : Tab w) :
    Calls Tryd.prog 72 #[.slice A n c, .func (.func 52) #[] #[]] w fun e w' => (relErr l.length l = 0 ∧ ∃ C, IsClo n PEucl l C ∧ GivesR C w e w') ∨ (relErr l.length l ≠ 0 ∧ GivesE (relErr l.length l) w e w') := by
  have e1 := hR.word_len
  have HK := Lib.hid (check_any n l A n c _ w hR hw hm)
  have E1 := Lib.hid e1
  have HR := Lib.hid hR
  have HT := Lib.hid hT
  rw [e1]
  clear hR hw hm hT e1
  by_cases h0 : relErr n l = 0
  · have hn : n ≤ 64 := relErr_zero h0
    have HS : Hid (Sh n l) := Lib.hid ⟨E1.out, relErr_rows h0⟩
    have HSTEPS := Lib.hid (euclL_steps n)
    rw [h0] at HK
    have H0 := Lib.hid h0
    clear h0
    have HC := Lib.hid (clone_any l A n c w HR.out hn)
    go_enter Tryd.func72, Tryd.ntmps72
    go_wp2_with fail
    refine (HK.out).mono ?_
    rintro e w0 ⟨rfl, rfl⟩
    go_wp2_with fail
    refine (HC.out).mono ?_
    rintro e w1 ⟨A1, c1, rfl, hg, hb⟩
    have hR1 : Reads w1 w1.heap.size 1 A1 n (us l) := by
      by_cases hn0 : n = 0
      · subst hn0; exact ⟨by simp [us, HS.out.1], fun h => absurd h (by omega)⟩
      · obtain ⟨g, rfl, _, hH⟩ := hg (by omega)
        have := hH.reads
        rwa [HS.out.1] at this
    have HX := Lib.hid (extendEuclidean_any l A1 n c1 w1 hR1 HS.out hn (HT.out.below hb))
    have HB := Lib.hid hb
    have HR1 := Lib.hid hR1
    clear hg hb hR1
    go_wp2_with fail
    refine (HX.out).mono ?_
    rintro e w2 ⟨A2, c2, rfl, hR2, hb2⟩
    have HI0 : Hid (Reads w2 w2.heap.size 1 A1 n (us l) ∧ Reads w2 w2.heap.size 1 A2 n (us (run (fun l k => euclL l k n) l n)) ∧ Mid n PEucl l l ∧ Below w.heap.size w w2) := Lib.hid ⟨(HR1.out.below hb2).more hb2.size, hR2, Mid.start HS.out, HB.out.trans (hb2.mono HB.out.size)⟩
    clear hR2 hb2
    go_wp2
    go_loopw [7, 8] (fun i j wr => ∃ (x : List Nat) (A1 A2 : Option Addr) (c1 c2 : Nat), i = .slice A1 n c1 ∧ j = .slice A2 n c2 ∧ Hid (Reads wr wr.heap.size 1 A1 n (us x) ∧ Reads wr wr.heap.size 1 A2 n (us (run (fun l k => euclL l k n) x n)) ∧ Mid n PEucl l x ∧ Below w.heap.size w wr)) (fun i _ wr => 64 * n - wt (rdL wr i))
    case atStart => exact ⟨l, A1, A2, c1, c2, rfl, rfl, HI0⟩
    case round =>
      obtain ⟨x, A1, A2, c1, c2, rfl, rfl, HI⟩ := hrel
      have HQ := Lib.hid (equal_any (run (fun l k => euclL l k n) x n) x A2 A1 n n c2 c1 wr.heap.size wr HI.out.2.1 HI.out.1 (by unfold maxLen; omega) (by unfold maxLen; omega))
      by_cases hq : run (fun l k => euclL l k n) x n = x
      · rw [decide_eq_true hq] at HQ
        have HF := Lib.hid hq
        clear hq
        go_wp2_with fail
        refine (HQ.out).mono ?_
        rintro e w3 ⟨rfl, q, rfl⟩
        go_wp2
        go_ret2
        refine Or.inl ⟨H0.out, x, HI.out.2.2.1.done HSTEPS.out HF.out, A1, c1, ?_, ?_, below_drewN HI.out.2.2.2 q⟩
        · rw [HI.out.2.2.1.sh.1]; rfl
        · rw [HI.out.2.2.1.sh.1]; exact HI.out.1.drewN q
      · rw [decide_eq_false hq] at HQ
        have HM := Lib.hid (HI.out.2.2.1.more HSTEPS.out hn hq)
        clear hq
        go_wp2_with fail
        refine (HQ.out).mono ?_
        rintro e w3 ⟨rfl, q, rfl⟩
        have HX := Lib.hid (extendEuclidean_any (run (fun l k => euclL l k n) x n) A2 n c2 (wr.drewN q) (HI.out.2.1.drewN q) (HI.out.2.2.1.next HSTEPS.out).sh hn (HT.out.below (below_drewN HI.out.2.2.2 q)))
        go_wp2_with fail
        refine (HX.out).mono ?_
        rintro e w4 ⟨A3, c3, rfl, hR3, hb3⟩
        have hb4 : Below (wr.drewN q).heap.size wr w4 := ((below_drewN (Below.refl _ _) q)).trans hb3
        have HR4 : Hid (Reads w4 w4.heap.size 1 A2 n (us (run (fun l k => euclL l k n) x n))) := Lib.hid ((HI.out.2.1.below hb4).more hb4.size)
        have HI2 : Hid (Reads w4 w4.heap.size 1 A2 n (us (run (fun l k => euclL l k n) x n)) ∧ Reads w4 w4.heap.size 1 A3 n (us (run (fun l k => euclL l k n) (run (fun l k => euclL l k n) x n) n)) ∧ Mid n PEucl l (run (fun l k => euclL l k n) x n) ∧ Below w.heap.size w w4) := Lib.hid ⟨HR4.out, hR3, HI.out.2.2.1.next HSTEPS.out, HI.out.2.2.2.trans (hb4.mono HI.out.2.2.2.size)⟩
        clear hR3 hb3 hb4
        go_wp2
        go_roundw
        case rel => exact ⟨run (fun l k => euclL l k n) x n, A2, A3, c2, c3, rfl, rfl, HI2⟩
        case measure =>
          rw [rdL_reads HI.out.1, rdL_reads HR4.out]
          have := HM.out
          omega
  · have hne : (relErr n l != 0) = true := by simp [h0]
    have H0 := Lib.hid h0
    clear h0
    go_enter Tryd.func72, Tryd.ntmps72
    go_wp2_with fail
    refine (HK.out).mono ?_
    rintro e w0 ⟨rfl, rfl⟩
    go_wp2
    go_ret2
    exact Or.inr ⟨H0.out, rfl, Below.refl _ _⟩
theorem relEuclidean_any (l : List Nat) (A : Option Addr) (n c : Nat) (w : World) (hR : Reads w w.heap.size 1 A n (us l)) (hw : Words l) (hm : n ≤ maxLen) (hT : Tab w) :
    Calls Tryd.prog 42 #[.slice A n c] w fun e w' => (relErr l.length l = 0 ∧ ∃ C, IsClo n PEucl l C ∧ GivesR C w e w') ∨ (relErr l.length l ≠ 0 ∧ GivesE (relErr l.length l) w e w') := by
  have H := Lib.hid (closureEuclidean_any l A n c w hR hw hm hT)
  clear hR hw hT
  go_enter Tryd.func42, Tryd.ntmps42
  go_wp2_with fail
  refine (H.out).mono ?_
  rintro e w1 (⟨h0, C, hC, A1, c1, rfl, hR1, hb1⟩ | ⟨h0, rfl, hb1⟩)
  · have HH := Lib.hid (And.intro h0 (And.intro hC (And.intro hR1 hb1)))
    clear h0 hC hR1 hb1
    go_wp2
    go_ret2
    exact Or.inl ⟨HH.out.1, C, HH.out.2.1, A1, c1, rfl, HH.out.2.2.1, HH.out.2.2.2⟩
  · have HH := Lib.hid (And.intro h0 hb1)
    clear h0 hb1
    go_wp2
    go_ret2
    exact Or.inr ⟨HH.out.1, rfl, HH.out.2⟩
end Go.Proofs.YtogjbghieoifjaaDoor
