/- Layer 6: texts joined: Rp Rt Ab. -/
import Derived.Test.YtjpmhbnikoggaaaGreatDoorNIb
import Derived.Test.YtjpmhbnikoggaaaGreatDoorNId
import Derived.Test.YtjpmhbnikoggaaaGreatDoorNIe
import Derived.Lib.Builder
/- Contracts of layer 2: extend, closed, closure and the euclidean closure. -/
namespace Go.Proofs.YtjpmhbnikoggaaaGreatDoor
open Go.RowKit Go.Proofs.Ws
set_option maxRecDepth 100000 in
theorem extendEuclidean_any (l : List Nat) (A : Option Addr) (n c : Nat) (w : World) (hR : Reads w w.heap.size 1 A n (us l)) (hS : Sh n l) (hn : n ≤ 64) (hT : Tab w) :
    Calls Tryz.prog 173 #[.slice A n c, .func (.func 136) #[] #[]] w fun e w' => ∃ A' c', e = .returned (.slice A' n c') ∧ Reads w' w'.heap.size 1 A' n (us (run (fun l k => euclL l k n) l n)) ∧ Below w.heap.size w w' := by
  have HC := Lib.hid (clone_any l A n c w hR hn)
  have HS := Lib.hid hS
  have HT := Lib.hid hT
  clear hR hS hT
  go_enter Tryz.func173, Tryz.ntmps173
  go_wp2_with fail
  refine (HC.out).mono ?_
  rintro e w1 ⟨A1, c1, rfl, hg, hb⟩
  have HG := Lib.hid hg
  have HB := Lib.hid hb
  clear hg hb
  by_cases hn0 : n = 0
  · subst hn0
    go_wp2
    go_loopw [11] (fun i wr => i = .int .i64 ((0 : Nat) : Int) ∧ wr = w1) (fun i _ => 0 - (intOf i).toNat)
    case atStart => exact ⟨rfl, rfl⟩
    case round =>
      obtain ⟨rfl, rfl⟩ := hrel
      go_wp2
      go_ret
      exact ⟨A1, c1, rfl, ⟨by simp [run, us, HS.out.1], fun h => absurd h (by omega)⟩, HB.out⟩
  · obtain ⟨g, rfl, hg1, hH1⟩ := HG.out (by omega)
    have HG1 := Lib.hid hg1
    have HH1 := Lib.hid hH1
    clear hg1 hH1 HG
    have hg0 : 0 < g := by have := HG1.out; have := HT.out.2; omega
    have HG0 := Lib.hid hg0
    clear hg0
    have HSTEPS := Lib.hid (euclL_steps n)
    go_wp2
    go_loopw [11] (fun i wr => ∃ k : Nat, k ≤ n ∧ i = .int .i64 k ∧ Hid (HoldsP wr g (run (fun l k => euclL l k n) l k) ∧ BelowBut w1.heap.size g w1 wr)) (fun i _ => n - (intOf i).toNat)
    case atStart => exact ⟨0, Nat.zero_le _, rfl, Lib.hid ⟨HH1.out, BelowBut.refl _ _ _⟩⟩
    case round =>
      obtain ⟨k, hk, rfl, HI⟩ := hrel
      by_cases hlt : k < n
      · have HW : Hid (Calls Tryz.prog 136 #[.slice (some ⟨g, 0, none⟩) n c1, .int .i64 k] wr fun e w' => e = .returned (.tuple #[]) ∧ HoldsP w' g (run (fun l k => euclL l k n) l (k + 1)) ∧ BelowBut w1.heap.size g w1 w') := Lib.hid (by
          have hH := HI.out.1
          have hB := HI.out.2
          have hS := (HSTEPS.out.run_sh HS.out k (by omega)).1
          have hT : Tab wr := HT.out.below (HB.out.trans ((hB.mono HB.out.size).below HG1.out))
          have hg0 := HG0.out
          have hk := hlt
          generalize hL : run (fun l k => euclL l k n) l k = L at hH hS
          refine (stepEuclidean_any L g n c1 k wr hH (sh_words hn hS) hS.2 hS.1 hk hn hT hg0).mono ?_
          rintro e w' ⟨he, h1, h2⟩
          refine ⟨he, ?_, hB.trans (h2.mono hB.size)⟩
          rw [run_succ, hL]
          exact h1)
        clear HI
        go_wp2_with fail
        refine (HW.out).mono ?_
        rintro e w2 ⟨rfl, h1, h2⟩
        have H2 := Lib.hid (And.intro h1 h2)
        clear h1 h2 HW
        go_wp2
        go_roundw
        case rel => exact ⟨k + 1, by omega, by go_num, H2⟩
        case measure => simp [intOf]; omega
      · have hkn : n = k := by omega
        subst hkn
        go_wp2
        go_ret
        have hl : (run (fun l k => euclL l k n) l n).length = n := (HSTEPS.out.run_sh HS.out n (Nat.le_refl _)).1.1
        refine ⟨_, c1, rfl, ?_, HB.out.trans ((HI.out.2.mono HB.out.size).below HG1.out)⟩
        have := HI.out.1.reads
        rw [hl] at this
        exact this
set_option maxRecDepth 100000 in
theorem closedEuclidean_any (l : List Nat) (A : Option Addr) (n c : Nat) (w : World) (hR : Reads w w.heap.size 1 A n (us l)) (hS : Sh n l) (hn : n ≤ 64) (hT : Tab w) :
    Calls Tryz.prog 132 #[.slice A n c, .func (.func 136) #[] #[]] w fun e w' => (∃ b : Bool, e = .returned (.bool b) ∧ (b = true ↔ PEucl l)) ∧ Below w.heap.size w w' := by
  have HE := Lib.hid (extendEuclidean_any l A n c w hR hS hn hT)
  have HR := Lib.hid hR
  have HF := Lib.hid (((euclL_steps n)).run_fixed hS)
  clear hR hS hT
  go_enter Tryz.func132, Tryz.ntmps132
  go_wp2_with fail
  refine (HE.out).mono ?_
  rintro e w1 ⟨A1, c1, rfl, hR1, hb1⟩
  have HQ := Lib.hid (equal_any (run (fun l k => euclL l k n) l n) l A1 A n n c1 c w1.heap.size w1 hR1 ((HR.out.below hb1).more hb1.size) (by unfold maxLen; omega) (by unfold maxLen; omega))
  have HB := Lib.hid hb1
  clear hR1 hb1
  go_wp2_with fail
  refine (HQ.out).mono ?_
  rintro e w2 ⟨rfl, q, rfl⟩
  go_wp2
  go_ret
  exact ⟨⟨_, rfl, by rw [decide_eq_true_eq]; exact HF.out⟩, below_drewN HB.out q⟩
end Go.Proofs.YtjpmhbnikoggaaaGreatDoor
/- Contracts of layer 2: Has on both sides. -/
namespace Go.Proofs.YtjpmhbnikoggaaaGreatDoor
open Go.RowKit Go.Proofs.Ws
/-- the property with a number -/
def HasP (n : Nat) (p : Int) (l : List Nat) : Prop := (p = 1 ∧ 0 ∉ l) ∨ (p = 2 ∧ PRefl n l) ∨ (p = 3 ∧ PSym l) ∨ (p = 4 ∧ PTrans l) ∨ (p = 5 ∧ PEucl l)
theorem hasP1 (n : Nat) (l : List Nat) : HasP n 1 l ↔ 0 ∉ l := by unfold HasP; simp
theorem hasP2 (n : Nat) (l : List Nat) : HasP n 2 l ↔ PRefl n l := by unfold HasP; simp
theorem hasP3 (n : Nat) (l : List Nat) : HasP n 3 l ↔ PSym l := by unfold HasP; simp
theorem hasP4 (n : Nat) (l : List Nat) : HasP n 4 l ↔ PTrans l := by unfold HasP; simp
theorem hasP5 (n : Nat) (l : List Nat) : HasP n 5 l ↔ PEucl l := by unfold HasP; simp
theorem hasPno (n : Nat) (p : Int) (l : List Nat) (h : ¬ (1 ≤ p ∧ p ≤ 5)) : ¬ HasP n p l := by unfold HasP; omega
/-- what a call hands back: whether a proposition holds -/
def GivesB (Q : Prop) (w : World) (e : Ending) (w' : World) : Prop := ∃ b : Bool, e = .returned (.bool b) ∧ (b = true ↔ Q) ∧ Below w.heap.size w w'
theorem GivesB.congr {Q R : Prop} {w : World} {e : Ending} {w' : World} (h : GivesB Q w e w') (hq : Q ↔ R) : GivesB R w e w' := by
  obtain ⟨b, he, hb, hw⟩ := h
  exact ⟨b, he, hb.trans hq, hw⟩
set_option maxRecDepth 100000 in
theorem hasNot_any (l : List Nat) (A : Option Addr) (n c : Nat) (p : Int) (w : World) (hR : Reads w w.heap.size 1 A n (us l)) (hw : Words l) (hm : n ≤ maxLen) (h0 : relErr n l ≠ 0) :
    Calls Tryz.prog 81 #[.slice A n c, .int .i64 p] w (GivesB False w) := by
  have HV := Lib.hid (valid_any l A n c _ w hR hw hm)
  rw [decide_eq_false h0] at HV
  clear hR hw h0
  go_enter Tryz.func81, Tryz.ntmps81
  go_wp2_with fail
  refine (HV.out).mono ?_
  rintro e w0 ⟨rfl, rfl⟩
  go_wp2
  go_ret
  exact ⟨false, rfl, by simp, Below.refl _ _⟩
set_option maxRecDepth 100000 in
theorem hasOther_any (l : List Nat) (A : Option Addr) (n c : Nat) (p : Int) (w : World) (hR : Reads w w.heap.size 1 A n (us l)) (hw : Words l) (hm : n ≤ maxLen) (h0 : relErr n l = 0) (hp : ¬ (1 ≤ p ∧ p ≤ 5)) :
    Calls Tryz.prog 81 #[.slice A n c, .int .i64 p] w (GivesB False w) := by
  have HV := Lib.hid (valid_any l A n c _ w hR hw hm)
  rw [decide_eq_true h0] at HV
  have p1 : (p == 1) = false := by simp; omega
  have p2 : (p == 2) = false := by simp; omega
  have p3 : (p == 3) = false := by simp; omega
  have p4 : (p == 4) = false := by simp; omega
  have p5 : (p == 5) = false := by simp; omega
  clear hR hw h0 hp
  go_enter Tryz.func81, Tryz.ntmps81
  go_wp2_with fail
  refine (HV.out).mono ?_
  rintro e w0 ⟨rfl, rfl⟩
  go_wp2
  go_ret
  exact ⟨false, rfl, by simp, Below.refl _ _⟩
set_option maxRecDepth 100000 in
theorem hasSerial_any (l : List Nat) (A : Option Addr) (n c : Nat) (w : World) (hR : Reads w w.heap.size 1 A n (us l)) (hw : Words l) (hm : n ≤ maxLen) (h0 : relErr n l = 0) :
    Calls Tryz.prog 81 #[.slice A n c, .int .i64 1] w (GivesB (0 ∉ l) w) := by
  have HV := Lib.hid (valid_any l A n c _ w hR hw hm)
  rw [decide_eq_true h0] at HV
  have HC := Lib.hid (contains_any l 0 A n c _ w hR hm)
  clear hR hw h0
  go_enter Tryz.func81, Tryz.ntmps81
  go_wp2_with fail
  refine (HV.out).mono ?_
  rintro e w0 ⟨rfl, rfl⟩
  go_wp2_with fail
  refine (HC.out).mono ?_
  rintro e w0 ⟨rfl, rfl⟩
  go_wp2
  go_ret
  exact ⟨_, rfl, by first | simp | (rw [Bool.not_eq_true', decide_eq_false_iff_not]), Below.refl _ _⟩
set_option maxRecDepth 100000 in
theorem hasReflexive_any (l : List Nat) (A : Option Addr) (n c : Nat) (w : World) (hR : Reads w w.heap.size 1 A n (us l)) (hw : Words l) (hm : n ≤ maxLen) (hT : Tab w) (h0 : relErr n l = 0) :
    Calls Tryz.prog 81 #[.slice A n c, .int .i64 2] w (GivesB ((PRefl n) l) w) := by
  have e1 := hR.word_len
  have HV := Lib.hid (valid_any l A n c _ w hR hw hm)
  rw [decide_eq_true h0] at HV
  have HC := Lib.hid (closedReflexive_any l A n c w hR ⟨e1, relErr_rows h0⟩ (relErr_zero h0) hT)
  clear hR hw h0 hT e1
  go_enter Tryz.func81, Tryz.ntmps81
  go_wp2_with fail
  refine (HV.out).mono ?_
  rintro e w0 ⟨rfl, rfl⟩
  go_wp2_with fail
  refine (HC.out).mono ?_
  rintro e w1 ⟨⟨b, rfl, hb⟩, hw⟩
  have HH := Lib.hid (And.intro hb hw)
  clear hb hw
  go_wp2
  go_ret
  exact ⟨b, rfl, HH.out.1, HH.out.2⟩
set_option maxRecDepth 100000 in
theorem hasSymmetric_any (l : List Nat) (A : Option Addr) (n c : Nat) (w : World) (hR : Reads w w.heap.size 1 A n (us l)) (hw : Words l) (hm : n ≤ maxLen) (hT : Tab w) (h0 : relErr n l = 0) :
    Calls Tryz.prog 81 #[.slice A n c, .int .i64 3] w (GivesB (PSym l) w) := by
  have e1 := hR.word_len
  have HV := Lib.hid (valid_any l A n c _ w hR hw hm)
  rw [decide_eq_true h0] at HV
  have HC := Lib.hid (closedSymmetric_any l A n c w hR ⟨e1, relErr_rows h0⟩ (relErr_zero h0) hT)
  clear hR hw h0 hT e1
  go_enter Tryz.func81, Tryz.ntmps81
  go_wp2_with fail
  refine (HV.out).mono ?_
  rintro e w0 ⟨rfl, rfl⟩
  go_wp2_with fail
  refine (HC.out).mono ?_
  rintro e w1 ⟨⟨b, rfl, hb⟩, hw⟩
  have HH := Lib.hid (And.intro hb hw)
  clear hb hw
  go_wp2
  go_ret
  exact ⟨b, rfl, HH.out.1, HH.out.2⟩
set_option maxRecDepth 100000 in
theorem hasTransitive_any (l : List Nat) (A : Option Addr) (n c : Nat) (w : World) (hR : Reads w w.heap.size 1 A n (us l)) (hw : Words l) (hm : n ≤ maxLen) (hT : Tab w) (h0 : relErr n l = 0) :
    Calls Tryz.prog 81 #[.slice A n c, .int .i64 4] w (GivesB (PTrans l) w) := by
  have e1 := hR.word_len
  have HV := Lib.hid (valid_any l A n c _ w hR hw hm)
  rw [decide_eq_true h0] at HV
  have HC := Lib.hid (closedTransitive_any l A n c w hR ⟨e1, relErr_rows h0⟩ (relErr_zero h0) hT)
  clear hR hw h0 hT e1
  go_enter Tryz.func81, Tryz.ntmps81
  go_wp2_with fail
  refine (HV.out).mono ?_
  rintro e w0 ⟨rfl, rfl⟩
  go_wp2_with fail
  refine (HC.out).mono ?_
  rintro e w1 ⟨⟨b, rfl, hb⟩, hw⟩
  have HH := Lib.hid (And.intro hb hw)
  clear hb hw
  go_wp2
  go_ret
  exact ⟨b, rfl, HH.out.1, HH.out.2⟩
set_option maxRecDepth 100000 in
theorem hasEuclidean_any (l : List Nat) (A : Option Addr) (n c : Nat) (w : World) (hR : Reads w w.heap.size 1 A n (us l)) (hw : Words l) (hm : n ≤ maxLen) (hT : Tab w) (h0 : relErr n l = 0) :
    Calls Tryz.prog 81 #[.slice A n c, .int .i64 5] w (GivesB (PEucl l) w) := by
  have e1 := hR.word_len
  have HV := Lib.hid (valid_any l A n c _ w hR hw hm)
  rw [decide_eq_true h0] at HV
  have HC := Lib.hid (closedEuclidean_any l A n c w hR ⟨e1, relErr_rows h0⟩ (relErr_zero h0) hT)
  clear hR hw h0 hT e1
  go_enter Tryz.func81, Tryz.ntmps81
  go_wp2_with fail
  refine (HV.out).mono ?_
  rintro e w0 ⟨rfl, rfl⟩
  go_wp2_with fail
  refine (HC.out).mono ?_
  rintro e w1 ⟨⟨b, rfl, hb⟩, hw⟩
  have HH := Lib.hid (And.intro hb hw)
  clear hb hw
  go_wp2
  go_ret
  exact ⟨b, rfl, HH.out.1, HH.out.2⟩
theorem has_any (l : List Nat) (A : Option Addr) (n c : Nat) (p : Int) (w : World) (hR : Reads w w.heap.size 1 A n (us l)) (hw : Words l) (hm : n ≤ maxLen) (hT : Tab w) :
    Calls Tryz.prog 81 #[.slice A n c, .int .i64 p] w (GivesB (relErr n l = 0 ∧ HasP n p l) w) := by
  by_cases h0 : relErr n l = 0
  · by_cases hp : 1 ≤ p ∧ p ≤ 5
    · have hc : p = 1 ∨ p = 2 ∨ p = 3 ∨ p = 4 ∨ p = 5 := by omega
      rcases hc with rfl | rfl | rfl | rfl | rfl
      · exact (hasSerial_any l A n c w hR hw hm h0).mono fun _ _ h => h.congr (by rw [hasP1]; exact ⟨fun x => ⟨h0, x⟩, fun x => x.2⟩)
      · exact (hasReflexive_any l A n c w hR hw hm hT h0).mono fun _ _ h => h.congr (by rw [hasP2]; exact ⟨fun x => ⟨h0, x⟩, fun x => x.2⟩)
      · exact (hasSymmetric_any l A n c w hR hw hm hT h0).mono fun _ _ h => h.congr (by rw [hasP3]; exact ⟨fun x => ⟨h0, x⟩, fun x => x.2⟩)
      · exact (hasTransitive_any l A n c w hR hw hm hT h0).mono fun _ _ h => h.congr (by rw [hasP4]; exact ⟨fun x => ⟨h0, x⟩, fun x => x.2⟩)
      · exact (hasEuclidean_any l A n c w hR hw hm hT h0).mono fun _ _ h => h.congr (by rw [hasP5]; exact ⟨fun x => ⟨h0, x⟩, fun x => x.2⟩)
    · exact (hasOther_any l A n c p w hR hw hm h0 hp).mono fun _ _ h => h.congr ⟨False.elim, fun x => hasPno n p l hp x.2⟩
  · exact (hasNot_any l A n c p w hR hw hm h0).mono fun _ _ h => h.congr ⟨False.elim, fun x => h0 x.1⟩
end Go.Proofs.YtjpmhbnikoggaaaGreatDoor
/- Layer 15: what layer 13's texts take from Ab stands in layer 2's texts here. -/
namespace Go.Proofs.YtjpmhbnikoggaaaGreatDoor
end Go.Proofs.YtjpmhbnikoggaaaGreatDoor
