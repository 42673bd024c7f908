/- Contracts of layer 2's reference: Has. -/
import Derived.Test.YtogjbghieoifjaaDoorRt
namespace Go.Proofs.YtogjbghieoifjaaDoor
open Go.RowKit Go.Proofs.Ws
set_option maxRecDepth 100000 in
theorem refHasNot_any (l : List Nat) (A : Option Addr) (n c : Nat) (p : Int) (w : World) (hR : Reads w w.heap.size 1 A n (us l)) (hw : Words l) (hm : n ≤ maxLen) (h0 : relErr n l ≠ 0) :
    Calls Tryd.prog 16 #[.slice A n c, .int .i64 p] w (GivesB False w) := by
  have HV := Lib.hid (ref2Valid_any l A n c _ w hR hw hm)
  rw [decide_eq_false h0] at HV
  clear hR hw h0
  go_enter Tryd.func16, Tryd.ntmps16
  go_wp2_with fail
  refine (HV.out).mono ?_
  rintro e w0 ⟨rfl, q0, rfl⟩
  go_wp2
  go_ret
  exact ⟨false, rfl, by simp, below_drewN (Below.refl _ _) _⟩
set_option maxRecDepth 100000 in
theorem refHasOther_any (l : List Nat) (A : Option Addr) (n c : Nat) (p : Int) (w : World) (hR : Reads w w.heap.size 1 A n (us l)) (hw : Words l) (hm : n ≤ maxLen) (hA : A = none → c = 0) (h0 : relErr n l = 0) (hp : ¬ (1 ≤ p ∧ p ≤ 5)) :
    Calls Tryd.prog 16 #[.slice A n c, .int .i64 p] w (GivesB False w) := by
  have e1 := hR.word_len
  have hn : n ≤ 64 := relErr_zero h0
  have HV := Lib.hid (ref2Valid_any l A n c _ w hR hw hm)
  rw [decide_eq_true h0] at HV
  have HR := Lib.hid hR
  have HS : Hid (Sh n l) := Lib.hid ⟨e1, relErr_rows h0⟩
  have HW := Lib.hid hw
  have H0 := Lib.hid h0
  have p1 : (p == 1) = false := by simp; omega
  have p2 : (p == 2) = false := by simp; omega
  have p3 : (p == 3) = false := by simp; omega
  have p4 : (p == 4) = false := by simp; omega
  have p5 : (p == 5) = false := by simp; omega
  clear hR hw h0 e1 hp
  go_enter Tryd.func16, Tryd.ntmps16
  go_wp2_with fail
  refine (HV.out).mono ?_
  rintro e w0 ⟨rfl, q0, rfl⟩
  go_wp2_with (at_builtin; refine wp_copy _ rfl _ _ rfl (w.drewN q0).heap.size (w.drewN q0).heap.size (Nat.le_refl _) (World.ownsRow_made (w.drewN q0) #[] 0 (Nat.le_refl _) (Nat.zero_le _) (by simp)) (by simp) rfl rfl hA (((HR.out.drewN q0).alloc (Nat.le_refl _) _).more (by simp)) hn ?_)
  intro A1 c1 w1 _ hb
  have HB : Hid (Below w.heap.size w w1) := Lib.hid (((below_drewN (Below.refl _ w) q0).alloc (Nat.le_refl _) _).trans hb)
  clear hb
  go_wp2
  go_ret
  exact ⟨false, rfl, by simp, HB.out⟩
set_option maxRecDepth 100000 in
theorem refHasSerial_any (l : List Nat) (A : Option Addr) (n c : Nat) (w : World) (hR : Reads w w.heap.size 1 A n (us l)) (hw : Words l) (hm : n ≤ maxLen) (hA : A = none → c = 0) (h0 : relErr n l = 0) :
    Calls Tryd.prog 16 #[.slice A n c, .int .i64 1] w (GivesB (0 ∉ l) w) := by
  have e1 := hR.word_len
  have hn : n ≤ 64 := relErr_zero h0
  have HV := Lib.hid (ref2Valid_any l A n c _ w hR hw hm)
  rw [decide_eq_true h0] at HV
  have HR := Lib.hid hR
  have HS : Hid (Sh n l) := Lib.hid ⟨e1, relErr_rows h0⟩
  have HW := Lib.hid hw
  have H0 := Lib.hid h0
  clear hR hw h0 e1
  go_enter Tryd.func16, Tryd.ntmps16
  go_wp2_with fail
  refine (HV.out).mono ?_
  rintro e w0 ⟨rfl, q0, rfl⟩
  go_wp2_with (at_builtin; refine wp_copy _ rfl _ _ rfl (w.drewN q0).heap.size (w.drewN q0).heap.size (Nat.le_refl _) (World.ownsRow_made (w.drewN q0) #[] 0 (Nat.le_refl _) (Nat.zero_le _) (by simp)) (by simp) rfl rfl hA (((HR.out.drewN q0).alloc (Nat.le_refl _) _).more (by simp)) hn ?_)
  intro A1 c1 w1 hg hb
  have HB : Hid (Below w.heap.size w w1) := Lib.hid (((below_drewN (Below.refl _ w) q0).alloc (Nat.le_refl _) _).trans hb)
  have hR1 : Reads w1 w1.heap.size 1 A1 n (us l) := by
    by_cases hn0 : n = 0
    · subst hn0; exact ⟨by simp [us, HS.out.1], fun h => absurd h (by omega)⟩
    · obtain ⟨g, rfl, _, hH⟩ := hg (by omega)
      have := hH.reads
      rwa [HS.out.1] at this
  have hRw : Reads w1 w1.heap.size 1 A n (us l) := (HR.out.below HB.out).more HB.out.size
  have HQ := Lib.hid (same_any l l A1 A n n c1 c w1.heap.size w1 hR1 hRw hm hm)
  clear hb hg hR1
  go_wp2
  go_loopw [6] (fun i wr => ∃ k : Nat, k ≤ n ∧ i = .int .i64 k ∧ Hid (decide (0 ∈ l) = decide (0 ∈ l.drop k)) ∧ wr = w1) (fun i _ => n - (intOf i).toNat)
  case atStart => exact ⟨0, Nat.zero_le _, rfl, Lib.hid rfl, rfl⟩
  case round =>
    obtain ⟨k, hk, rfl, HI, rfl⟩ := hrel
    by_cases hlt : k < n
    · obtain ⟨ad, y, rfl, hb, hkl, hy, hym, hd, hc⟩ := hRw.word_at hlt
      have HD := Lib.hid hd
      clear hkl hy hym hd
      by_cases hxy : y = 0
      · subst hxy
        have HE : Hid (0 ∈ l) := Lib.hid (by have := HI.out; rw [HD.out] at this; simpa using this)
        go_wp2
        go_ret
        exact ⟨false, rfl, by simp [HE.out], HB.out⟩
      · have HI2 : Hid (decide (0 ∈ l) = decide (0 ∈ l.drop (k + 1))) := Lib.hid (by rw [HI.out, HD.out]; simp [Ne.symm hxy])
        have hne : ((y : Int) == 0) = false := by simp; omega
        have hne2 : decide ((y : Int) = 0) = false := by simp; omega
        clear hxy
        go_wp2
        go_roundw
        case rel => exact ⟨k + 1, by omega, by go_num, HI2, by first | rfl | trivial⟩
        case measure => simp [intOf]; omega
    · have HE : Hid (0 ∉ l) := Lib.hid (by have := HI.out; rw [List.drop_eq_nil_of_le (by have := HS.out.1; omega)] at this; simpa using this)
      go_wp2_with fail
      refine (HQ.out).mono ?_
      rintro e w3 ⟨rfl, q, rfl⟩
      go_wp2
      go_ret
      exact ⟨_, rfl, by simp [HE.out], below_drewN HB.out q⟩
set_option maxRecDepth 100000 in
theorem refHasReflexive_any (l : List Nat) (A : Option Addr) (n c : Nat) (w : World) (hR : Reads w w.heap.size 1 A n (us l)) (hw : Words l) (hm : n ≤ maxLen) (hA : A = none → c = 0) (h0 : relErr n l = 0) :
    Calls Tryd.prog 16 #[.slice A n c, .int .i64 2] w (GivesB ((PRefl n) l) w) := by
  have e1 := hR.word_len
  have hn : n ≤ 64 := relErr_zero h0
  have HV := Lib.hid (ref2Valid_any l A n c _ w hR hw hm)
  rw [decide_eq_true h0] at HV
  have HR := Lib.hid hR
  have HS : Hid (Sh n l) := Lib.hid ⟨e1, relErr_rows h0⟩
  have HW := Lib.hid hw
  have H0 := Lib.hid h0
  clear hR hw h0 e1
  go_enter Tryd.func16, Tryd.ntmps16
  go_wp2_with fail
  refine (HV.out).mono ?_
  rintro e w0 ⟨rfl, q0, rfl⟩
  go_wp2_with (at_builtin; refine wp_copy _ rfl _ _ rfl (w.drewN q0).heap.size (w.drewN q0).heap.size (Nat.le_refl _) (World.ownsRow_made (w.drewN q0) #[] 0 (Nat.le_refl _) (Nat.zero_le _) (by simp)) (by simp) rfl rfl hA (((HR.out.drewN q0).alloc (Nat.le_refl _) _).more (by simp)) hn ?_)
  intro A1 c1 w1 _ hb
  have HB : Hid (Below w.heap.size w w1) := Lib.hid (((below_drewN (Below.refl _ w) q0).alloc (Nat.le_refl _) _).trans hb)
  clear hb
  have HX := Lib.hid (refReflexive_any l A n c w1 ((HR.out.below HB.out).more HB.out.size) HW.out hm hA)
  go_wp2_with fail
  refine (HX.out).mono ?_
  rintro e w2 (⟨_, C, hC, A2, c2, rfl, hR2, hb2⟩ | ⟨hx, _⟩)
  · have HC : Hid (IsClo n (PRefl n) l C) := Lib.hid hC
    have hlen : C.length = n := HC.out.sh.1
    have HQ := Lib.hid (same_any C l A2 A n n c2 c w2.heap.size w2 (by have := hR2; rwa [hlen] at this) ((HR.out.below (HB.out.trans (hb2.mono HB.out.size))).more (Nat.le_trans HB.out.size hb2.size)) hm hm)
    have HB2 := Lib.hid (HB.out.trans (hb2.mono HB.out.size))
    rw [← hlen] at HQ
    clear hC hR2 hb2
    go_wp2_with fail
    simp only [hlen] at HQ ⊢
    refine (HQ.out).mono ?_
    rintro e w3 ⟨rfl, q, rfl⟩
    go_wp2
    go_ret
    exact ⟨_, rfl, by rw [decide_eq_true_eq]; exact HC.out.fixed HS.out, below_drewN HB2.out q⟩
  · rw [HS.out.1] at hx
    exact absurd H0.out hx
set_option maxRecDepth 100000 in
theorem refHasSymmetric_any (l : List Nat) (A : Option Addr) (n c : Nat) (w : World) (hR : Reads w w.heap.size 1 A n (us l)) (hw : Words l) (hm : n ≤ maxLen) (hA : A = none → c = 0) (h0 : relErr n l = 0) :
    Calls Tryd.prog 16 #[.slice A n c, .int .i64 3] w (GivesB (PSym l) w) := by
  have e1 := hR.word_len
  have hn : n ≤ 64 := relErr_zero h0
  have HV := Lib.hid (ref2Valid_any l A n c _ w hR hw hm)
  rw [decide_eq_true h0] at HV
  have HR := Lib.hid hR
  have HS : Hid (Sh n l) := Lib.hid ⟨e1, relErr_rows h0⟩
  have HW := Lib.hid hw
  have H0 := Lib.hid h0
  clear hR hw h0 e1
  go_enter Tryd.func16, Tryd.ntmps16
  go_wp2_with fail
  refine (HV.out).mono ?_
  rintro e w0 ⟨rfl, q0, rfl⟩
  go_wp2_with (at_builtin; refine wp_copy _ rfl _ _ rfl (w.drewN q0).heap.size (w.drewN q0).heap.size (Nat.le_refl _) (World.ownsRow_made (w.drewN q0) #[] 0 (Nat.le_refl _) (Nat.zero_le _) (by simp)) (by simp) rfl rfl hA (((HR.out.drewN q0).alloc (Nat.le_refl _) _).more (by simp)) hn ?_)
  intro A1 c1 w1 _ hb
  have HB : Hid (Below w.heap.size w w1) := Lib.hid (((below_drewN (Below.refl _ w) q0).alloc (Nat.le_refl _) _).trans hb)
  clear hb
  have HX := Lib.hid (refSymmetric_any l A n c w1 ((HR.out.below HB.out).more HB.out.size) HW.out hm)
  go_wp2_with fail
  refine (HX.out).mono ?_
  rintro e w2 (⟨_, A2, c2, rfl, hR2, hb2⟩ | ⟨hx, _⟩)
  · have HC : Hid (IsClo n PSym l (symV l)) := Lib.hid (symV_clo l HS.out)
    generalize symV l = C at *
    have hlen : C.length = n := HC.out.sh.1
    have HQ := Lib.hid (same_any C l A2 A n n c2 c w2.heap.size w2 (by have := hR2; rwa [hlen] at this) ((HR.out.below (HB.out.trans (hb2.mono HB.out.size))).more (Nat.le_trans HB.out.size hb2.size)) hm hm)
    have HB2 := Lib.hid (HB.out.trans (hb2.mono HB.out.size))
    rw [← hlen] at HQ
    clear hR2 hb2
    go_wp2_with fail
    simp only [hlen] at HQ ⊢
    refine (HQ.out).mono ?_
    rintro e w3 ⟨rfl, q, rfl⟩
    go_wp2
    go_ret
    exact ⟨_, rfl, by rw [decide_eq_true_eq]; exact HC.out.fixed HS.out, below_drewN HB2.out q⟩
  · rw [HS.out.1] at hx
    exact absurd H0.out hx
set_option maxRecDepth 100000 in
theorem refHasTransitive_any (l : List Nat) (A : Option Addr) (n c : Nat) (w : World) (hR : Reads w w.heap.size 1 A n (us l)) (hw : Words l) (hm : n ≤ maxLen) (hA : A = none → c = 0) (h0 : relErr n l = 0) :
    Calls Tryd.prog 16 #[.slice A n c, .int .i64 4] w (GivesB (PTrans l) w) := by
  have e1 := hR.word_len
  have hn : n ≤ 64 := relErr_zero h0
  have HV := Lib.hid (ref2Valid_any l A n c _ w hR hw hm)
  rw [decide_eq_true h0] at HV
  have HR := Lib.hid hR
  have HS : Hid (Sh n l) := Lib.hid ⟨e1, relErr_rows h0⟩
  have HW := Lib.hid hw
  have H0 := Lib.hid h0
  clear hR hw h0 e1
  go_enter Tryd.func16, Tryd.ntmps16
  go_wp2_with fail
  refine (HV.out).mono ?_
  rintro e w0 ⟨rfl, q0, rfl⟩
  go_wp2_with (at_builtin; refine wp_copy _ rfl _ _ rfl (w.drewN q0).heap.size (w.drewN q0).heap.size (Nat.le_refl _) (World.ownsRow_made (w.drewN q0) #[] 0 (Nat.le_refl _) (Nat.zero_le _) (by simp)) (by simp) rfl rfl hA (((HR.out.drewN q0).alloc (Nat.le_refl _) _).more (by simp)) hn ?_)
  intro A1 c1 w1 _ hb
  have HB : Hid (Below w.heap.size w w1) := Lib.hid (((below_drewN (Below.refl _ w) q0).alloc (Nat.le_refl _) _).trans hb)
  clear hb
  have HX := Lib.hid (refTransitive_any l A n c w1 ((HR.out.below HB.out).more HB.out.size) HW.out hm hA)
  go_wp2_with fail
  refine (HX.out).mono ?_
  rintro e w2 (⟨_, C, hC, A2, c2, rfl, hR2, hb2⟩ | ⟨hx, _⟩)
  · have HC : Hid (IsClo n PTrans l C) := Lib.hid hC
    have hlen : C.length = n := HC.out.sh.1
    have HQ := Lib.hid (same_any C l A2 A n n c2 c w2.heap.size w2 (by have := hR2; rwa [hlen] at this) ((HR.out.below (HB.out.trans (hb2.mono HB.out.size))).more (Nat.le_trans HB.out.size hb2.size)) hm hm)
    have HB2 := Lib.hid (HB.out.trans (hb2.mono HB.out.size))
    rw [← hlen] at HQ
    clear hC hR2 hb2
    go_wp2_with fail
    simp only [hlen] at HQ ⊢
    refine (HQ.out).mono ?_
    rintro e w3 ⟨rfl, q, rfl⟩
    go_wp2
    go_ret
    exact ⟨_, rfl, by rw [decide_eq_true_eq]; exact HC.out.fixed HS.out, below_drewN HB2.out q⟩
  · rw [HS.out.1] at hx
    exact absurd H0.out hx
set_option maxRecDepth 100000 in
theorem refHasEuclidean_any (l : List Nat) (A : Option Addr) (n c : Nat) (w : World) (hR : Reads w w.heap.size 1 A n (us l)) (hw : Words l) (hm : n ≤ maxLen) (hA : A = none → c = 0) (h0 : relErr n l = 0) :
    Calls Tryd.prog 16 #[.slice A n c, .int .i64 5] w (GivesB (PEucl l) w) := by
  have e1 := hR.word_len
  have hn : n ≤ 64 := relErr_zero h0
  have HV := Lib.hid (ref2Valid_any l A n c _ w hR hw hm)
  rw [decide_eq_true h0] at HV
  have HR := Lib.hid hR
  have HS : Hid (Sh n l) := Lib.hid ⟨e1, relErr_rows h0⟩
  have HW := Lib.hid hw
  have H0 := Lib.hid h0
  clear hR hw h0 e1
  go_enter Tryd.func16, Tryd.ntmps16
  go_wp2_with fail
  refine (HV.out).mono ?_
  rintro e w0 ⟨rfl, q0, rfl⟩
  go_wp2_with (at_builtin; refine wp_copy _ rfl _ _ rfl (w.drewN q0).heap.size (w.drewN q0).heap.size (Nat.le_refl _) (World.ownsRow_made (w.drewN q0) #[] 0 (Nat.le_refl _) (Nat.zero_le _) (by simp)) (by simp) rfl rfl hA (((HR.out.drewN q0).alloc (Nat.le_refl _) _).more (by simp)) hn ?_)
  intro A1 c1 w1 _ hb
  have HB : Hid (Below w.heap.size w w1) := Lib.hid (((below_drewN (Below.refl _ w) q0).alloc (Nat.le_refl _) _).trans hb)
  clear hb
  have HX := Lib.hid (refEuclidean_any l A n c w1 ((HR.out.below HB.out).more HB.out.size) HW.out hm hA)
  go_wp2_with fail
  refine (HX.out).mono ?_
  rintro e w2 (⟨_, C, hC, A2, c2, rfl, hR2, hb2⟩ | ⟨hx, _⟩)
  · have HC : Hid (IsClo n PEucl l C) := Lib.hid hC
    have hlen : C.length = n := HC.out.sh.1
    have HQ := Lib.hid (same_any C l A2 A n n c2 c w2.heap.size w2 (by have := hR2; rwa [hlen] at this) ((HR.out.below (HB.out.trans (hb2.mono HB.out.size))).more (Nat.le_trans HB.out.size hb2.size)) hm hm)
    have HB2 := Lib.hid (HB.out.trans (hb2.mono HB.out.size))
    rw [← hlen] at HQ
    clear hC hR2 hb2
    go_wp2_with fail
    simp only [hlen] at HQ ⊢
    refine (HQ.out).mono ?_
    rintro e w3 ⟨rfl, q, rfl⟩
    go_wp2
    go_ret
    exact ⟨_, rfl, by rw [decide_eq_true_eq]; exact HC.out.fixed HS.out, below_drewN HB2.out q⟩
  · rw [HS.out.1] at hx
    exact absurd H0.out hx
theorem refHas_any (l : List Nat) (A : Option Addr) (n c : Nat) (p : Int) (w : World) (hR : Reads w w.heap.size 1 A n (us l)) (hw : Words l) (hm : n ≤ maxLen) (hA : A = none → c = 0) :
    Calls Tryd.prog 16 #[.slice A n c, .int .i64 p] w (GivesB (relErr n l = 0 ∧ HasP n p l) w) := by
  by_cases h0 : relErr n l = 0
  · by_cases hp : 1 ≤ p ∧ p ≤ 5
    · have hc : p = 1 ∨ p = 2 ∨ p = 3 ∨ p = 4 ∨ p = 5 := by omega
      rcases hc with rfl | rfl | rfl | rfl | rfl
      · exact (refHasSerial_any l A n c w hR hw hm hA h0).mono fun _ _ h => h.congr (by rw [hasP1]; exact ⟨fun x => ⟨h0, x⟩, fun x => x.2⟩)
      · exact (refHasReflexive_any l A n c w hR hw hm hA h0).mono fun _ _ h => h.congr (by rw [hasP2]; exact ⟨fun x => ⟨h0, x⟩, fun x => x.2⟩)
      · exact (refHasSymmetric_any l A n c w hR hw hm hA h0).mono fun _ _ h => h.congr (by rw [hasP3]; exact ⟨fun x => ⟨h0, x⟩, fun x => x.2⟩)
      · exact (refHasTransitive_any l A n c w hR hw hm hA h0).mono fun _ _ h => h.congr (by rw [hasP4]; exact ⟨fun x => ⟨h0, x⟩, fun x => x.2⟩)
      · exact (refHasEuclidean_any l A n c w hR hw hm hA h0).mono fun _ _ h => h.congr (by rw [hasP5]; exact ⟨fun x => ⟨h0, x⟩, fun x => x.2⟩)
    · exact (refHasOther_any l A n c p w hR hw hm hA h0 hp).mono fun _ _ h => h.congr ⟨False.elim, fun x => hasPno n p l hp x.2⟩
  · exact (refHasNot_any l A n c p w hR hw hm h0).mono fun _ _ h => h.congr ⟨False.elim, fun x => h0 x.1⟩
end Go.Proofs.YtogjbghieoifjaaDoor
