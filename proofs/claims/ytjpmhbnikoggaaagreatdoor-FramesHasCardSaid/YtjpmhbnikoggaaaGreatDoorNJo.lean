/- Layer 6: texts joined: Ru Fr39. -/
import Derived.Test.YtjpmhbnikoggaaaGreatDoorNIf
import Derived.Test.YtjpmhbnikoggaaaGreatDoorNIp
/- Contracts of layer 2's reference: Has. -/
namespace Go.Proofs.YtjpmhbnikoggaaaGreatDoor
open Go.RowKit Go.Proofs.Ws
set_option maxRecDepth 100000 in
theorem refHasNot_any (l : List Nat) (A : Option Addr) (n c : Nat) (p : Int) (w : World) (hR : Reads w w.heap.size 1 A n (us l)) (hw : Words l) (hm : n ≤ maxLen) (h0 : relErr n l ≠ 0) :
    Calls Tryz.prog 39 #[.slice A n c, .int .i64 p] w (GivesB False w) := by
  have HV := Lib.hid (ref2Valid_any l A n c _ w hR hw hm)
  rw [decide_eq_false h0] at HV
  clear hR hw h0
  go_enter Tryz.func39, Tryz.ntmps39
  go_wp2_with fail
  refine (HV.out).mono ?_
  rintro e w0 ⟨rfl, q0, rfl⟩
  go_wp2
  go_ret
  exact ⟨false, rfl, by simp, below_drewN (Below.refl _ _) _⟩
set_option maxRecDepth 100000 in
theorem refHasOther_any (l : List Nat) (A : Option Addr) (n c : Nat) (p : Int) (w : World) (hR : Reads w w.heap.size 1 A n (us l)) (hw : Words l) (hm : n ≤ maxLen) (hA : A = none → c = 0) (h0 : relErr n l = 0) (hp : ¬ (1 ≤ p ∧ p ≤ 5)) :
    Calls Tryz.prog 39 #[.slice A n c, .int .i64 p] w (GivesB False w) := by
  have e1 := hR.word_len
  have hn : n ≤ 64 := relErr_zero h0
  have HV := Lib.hid (ref2Valid_any l A n c _ w hR hw hm)
  rw [decide_eq_true h0] at HV
  have HR := Lib.hid hR
  have HS : Hid (Sh n l) := Lib.hid ⟨e1, relErr_rows h0⟩
  have HW := Lib.hid hw
  have H0 := Lib.hid h0
  have p1 : (p == 1) = false := by simp; omega
  have p2 : (p == 2) = false := by simp; omega
  have p3 : (p == 3) = false := by simp; omega
  have p4 : (p == 4) = false := by simp; omega
  have p5 : (p == 5) = false := by simp; omega
  clear hR hw h0 e1 hp
  go_enter Tryz.func39, Tryz.ntmps39
  go_wp2_with fail
  refine (HV.out).mono ?_
  rintro e w0 ⟨rfl, q0, rfl⟩
  go_wp2_with (at_builtin; refine wp_copy _ rfl _ _ rfl (w.drewN q0).heap.size (w.drewN q0).heap.size (Nat.le_refl _) (World.ownsRow_made (w.drewN q0) #[] 0 (Nat.le_refl _) (Nat.zero_le _) (by simp)) (by simp) rfl rfl hA (((HR.out.drewN q0).alloc (Nat.le_refl _) _).more (by simp)) hn ?_)
  intro A1 c1 w1 _ hb
  have HB : Hid (Below w.heap.size w w1) := Lib.hid (((below_drewN (Below.refl _ w) q0).alloc (Nat.le_refl _) _).trans hb)
  clear hb
  go_wp2
  go_ret
  exact ⟨false, rfl, by simp, HB.out⟩
set_option maxRecDepth 100000 in
theorem refHasSerial_any (l : List Nat) (A : Option Addr) (n c : Nat) (w : World) (hR : Reads w w.heap.size 1 A n (us l)) (hw : Words l) (hm : n ≤ maxLen) (hA : A = none → c = 0) (h0 : relErr n l = 0) :
    Calls Tryz.prog 39 #[.slice A n c, .int .i64 1] w (GivesB (0 ∉ l) w) := by
  have e1 := hR.word_len
  have hn : n ≤ 64 := relErr_zero h0
  have HV := Lib.hid (ref2Valid_any l A n c _ w hR hw hm)
  rw [decide_eq_true h0] at HV
  have HR := Lib.hid hR
  have HS : Hid (Sh n l) := Lib.hid ⟨e1, relErr_rows h0⟩
  have HW := Lib.hid hw
  have H0 := Lib.hid h0
  clear hR hw h0 e1
  go_enter Tryz.func39, Tryz.ntmps39
  go_wp2_with fail
  refine (HV.out).mono ?_
  rintro e w0 ⟨rfl, q0, rfl⟩
  go_wp2_with (at_builtin; refine wp_copy _ rfl _ _ rfl (w.drewN q0).heap.size (w.drewN q0).heap.size (Nat.le_refl _) (World.ownsRow_made (w.drewN q0) #[] 0 (Nat.le_refl _) (Nat.zero_le _) (by simp)) (by simp) rfl rfl hA (((HR.out.drewN q0).alloc (Nat.le_refl _) _).more (by simp)) hn ?_)
  intro A1 c1 w1 hg hb
  have HB : Hid (Below w.heap.size w w1) := Lib.hid (((below_drewN (Below.refl _ w) q0).alloc (Nat.le_refl _) _).trans hb)
  have hR1 : Reads w1 w1.heap.size 1 A1 n (us l) := by
    by_cases hn0 : n = 0
    · subst hn0; exact ⟨by simp [us, HS.out.1], fun h => absurd h (by omega)⟩
    · obtain ⟨g, rfl, _, hH⟩ := hg (by omega)
      have := hH.reads
      rwa [HS.out.1] at this
  have hRw : Reads w1 w1.heap.size 1 A n (us l) := (HR.out.below HB.out).more HB.out.size
  have HQ := Lib.hid (same_any l l A1 A n n c1 c w1.heap.size w1 hR1 hRw hm hm)
  clear hb hg hR1
  go_wp2
  go_loopw [6] (fun i wr => ∃ k : Nat, k ≤ n ∧ i = .int .i64 k ∧ Hid (decide (0 ∈ l) = decide (0 ∈ l.drop k)) ∧ wr = w1) (fun i _ => n - (intOf i).toNat)
  case atStart => exact ⟨0, Nat.zero_le _, rfl, Lib.hid rfl, rfl⟩
  case round =>
    obtain ⟨k, hk, rfl, HI, rfl⟩ := hrel
    by_cases hlt : k < n
    · obtain ⟨ad, y, rfl, hb, hkl, hy, hym, hd, hc⟩ := hRw.word_at hlt
      have HD := Lib.hid hd
      clear hkl hy hym hd
      by_cases hxy : y = 0
      · subst hxy
        have HE : Hid (0 ∈ l) := Lib.hid (by have := HI.out; rw [HD.out] at this; simpa using this)
        go_wp2
        go_ret
        exact ⟨false, rfl, by simp [HE.out], HB.out⟩
      · have HI2 : Hid (decide (0 ∈ l) = decide (0 ∈ l.drop (k + 1))) := Lib.hid (by rw [HI.out, HD.out]; simp [Ne.symm hxy])
        have hne : ((y : Int) == 0) = false := by simp; omega
        have hne2 : decide ((y : Int) = 0) = false := by simp; omega
        clear hxy
        go_wp2
        go_roundw
        case rel => exact ⟨k + 1, by omega, by go_num, HI2, by first | rfl | trivial⟩
        case measure => simp [intOf]; omega
    · have HE : Hid (0 ∉ l) := Lib.hid (by have := HI.out; rw [List.drop_eq_nil_of_le (by have := HS.out.1; omega)] at this; simpa using this)
      go_wp2_with fail
      refine (HQ.out).mono ?_
      rintro e w3 ⟨rfl, q, rfl⟩
      go_wp2
      go_ret
      exact ⟨_, rfl, by simp [HE.out], below_drewN HB.out q⟩
set_option maxRecDepth 100000 in
theorem refHasReflexive_any (l : List Nat) (A : Option Addr) (n c : Nat) (w : World) (hR : Reads w w.heap.size 1 A n (us l)) (hw : Words l) (hm : n ≤ maxLen) (hA : A = none → c = 0) (h0 : relErr n l = 0) :
    Calls Tryz.prog 39 #[.slice A n c, .int .i64 2] w (GivesB ((PRefl n) l) w) := by
  have e1 := hR.word_len
  have hn : n ≤ 64 := relErr_zero h0
  have HV := Lib.hid (ref2Valid_any l A n c _ w hR hw hm)
  rw [decide_eq_true h0] at HV
  have HR := Lib.hid hR
  have HS : Hid (Sh n l) := Lib.hid ⟨e1, relErr_rows h0⟩
  have HW := Lib.hid hw
  have H0 := Lib.hid h0
  clear hR hw h0 e1
  go_enter Tryz.func39, Tryz.ntmps39
  go_wp2_with fail
  refine (HV.out).mono ?_
  rintro e w0 ⟨rfl, q0, rfl⟩
  go_wp2_with (at_builtin; refine wp_copy _ rfl _ _ rfl (w.drewN q0).heap.size (w.drewN q0).heap.size (Nat.le_refl _) (World.ownsRow_made (w.drewN q0) #[] 0 (Nat.le_refl _) (Nat.zero_le _) (by simp)) (by simp) rfl rfl hA (((HR.out.drewN q0).alloc (Nat.le_refl _) _).more (by simp)) hn ?_)
  intro A1 c1 w1 _ hb
  have HB : Hid (Below w.heap.size w w1) := Lib.hid (((below_drewN (Below.refl _ w) q0).alloc (Nat.le_refl _) _).trans hb)
  clear hb
  have HX := Lib.hid (refReflexive_any l A n c w1 ((HR.out.below HB.out).more HB.out.size) HW.out hm hA)
  go_wp2_with fail
  refine (HX.out).mono ?_
  rintro e w2 (⟨_, C, hC, A2, c2, rfl, hR2, hb2⟩ | ⟨hx, _⟩)
  · have HC : Hid (IsClo n (PRefl n) l C) := Lib.hid hC
    have hlen : C.length = n := HC.out.sh.1
    have HQ := Lib.hid (same_any C l A2 A n n c2 c w2.heap.size w2 (by have := hR2; rwa [hlen] at this) ((HR.out.below (HB.out.trans (hb2.mono HB.out.size))).more (Nat.le_trans HB.out.size hb2.size)) hm hm)
    have HB2 := Lib.hid (HB.out.trans (hb2.mono HB.out.size))
    rw [← hlen] at HQ
    clear hC hR2 hb2
    go_wp2_with fail
    simp only [hlen] at HQ ⊢
    refine (HQ.out).mono ?_
    rintro e w3 ⟨rfl, q, rfl⟩
    go_wp2
    go_ret
    exact ⟨_, rfl, by rw [decide_eq_true_eq]; exact HC.out.fixed HS.out, below_drewN HB2.out q⟩
  · rw [HS.out.1] at hx
    exact absurd H0.out hx
set_option maxRecDepth 100000 in
theorem refHasSymmetric_any (l : List Nat) (A : Option Addr) (n c : Nat) (w : World) (hR : Reads w w.heap.size 1 A n (us l)) (hw : Words l) (hm : n ≤ maxLen) (hA : A = none → c = 0) (h0 : relErr n l = 0) :
    Calls Tryz.prog 39 #[.slice A n c, .int .i64 3] w (GivesB (PSym l) w) := by
  have e1 := hR.word_len
  have hn : n ≤ 64 := relErr_zero h0
  have HV := Lib.hid (ref2Valid_any l A n c _ w hR hw hm)
  rw [decide_eq_true h0] at HV
  have HR := Lib.hid hR
  have HS : Hid (Sh n l) := Lib.hid ⟨e1, relErr_rows h0⟩
  have HW := Lib.hid hw
  have H0 := Lib.hid h0
  clear hR hw h0 e1
  go_enter Tryz.func39, Tryz.ntmps39
  go_wp2_with fail
  refine (HV.out).mono ?_
  rintro e w0 ⟨rfl, q0, rfl⟩
  go_wp2_with (at_builtin; refine wp_copy _ rfl _ _ rfl (w.drewN q0).heap.size (w.drewN q0).heap.size (Nat.le_refl _) (World.ownsRow_made (w.drewN q0) #[] 0 (Nat.le_refl _) (Nat.zero_le _) (by simp)) (by simp) rfl rfl hA (((HR.out.drewN q0).alloc (Nat.le_refl _) _).more (by simp)) hn ?_)
  intro A1 c1 w1 _ hb
  have HB : Hid (Below w.heap.size w w1) := Lib.hid (((below_drewN (Below.refl _ w) q0).alloc (Nat.le_refl _) _).trans hb)
  clear hb
  have HX := Lib.hid (refSymmetric_any l A n c w1 ((HR.out.below HB.out).more HB.out.size) HW.out hm)
  go_wp2_with fail
  refine (HX.out).mono ?_
  rintro e w2 (⟨_, A2, c2, rfl, hR2, hb2⟩ | ⟨hx, _⟩)
  · have HC : Hid (IsClo n PSym l (symV l)) := Lib.hid (symV_clo l HS.out)
    generalize symV l = C at *
    have hlen : C.length = n := HC.out.sh.1
    have HQ := Lib.hid (same_any C l A2 A n n c2 c w2.heap.size w2 (by have := hR2; rwa [hlen] at this) ((HR.out.below (HB.out.trans (hb2.mono HB.out.size))).more (Nat.le_trans HB.out.size hb2.size)) hm hm)
    have HB2 := Lib.hid (HB.out.trans (hb2.mono HB.out.size))
    rw [← hlen] at HQ
    clear hR2 hb2
    go_wp2_with fail
    simp only [hlen] at HQ ⊢
    refine (HQ.out).mono ?_
    rintro e w3 ⟨rfl, q, rfl⟩
    go_wp2
    go_ret
    exact ⟨_, rfl, by rw [decide_eq_true_eq]; exact HC.out.fixed HS.out, below_drewN HB2.out q⟩
  · rw [HS.out.1] at hx
    exact absurd H0.out hx
set_option maxRecDepth 100000 in
theorem refHasTransitive_any (l : List Nat) (A : Option Addr) (n c : Nat) (w : World) (hR : Reads w w.heap.size 1 A n (us l)) (hw : Words l) (hm : n ≤ maxLen) (hA : A = none → c = 0) (h0 : relErr n l = 0) :
    Calls Tryz.prog 39 #[.slice A n c, .int .i64 4] w (GivesB (PTrans l) w) := by
  have e1 := hR.word_len
  have hn : n ≤ 64 := relErr_zero h0
  have HV := Lib.hid (ref2Valid_any l A n c _ w hR hw hm)
  rw [decide_eq_true h0] at HV
  have HR := Lib.hid hR
  have HS : Hid (Sh n l) := Lib.hid ⟨e1, relErr_rows h0⟩
  have HW := Lib.hid hw
  have H0 := Lib.hid h0
  clear hR hw h0 e1
  go_enter Tryz.func39, Tryz.ntmps39
  go_wp2_with fail
  refine (HV.out).mono ?_
  rintro e w0 ⟨rfl, q0, rfl⟩
  go_wp2_with (at_builtin; refine wp_copy _ rfl _ _ rfl (w.drewN q0).heap.size (w.drewN q0).heap.size (Nat.le_refl _) (World.ownsRow_made (w.drewN q0) #[] 0 (Nat.le_refl _) (Nat.zero_le _) (by simp)) (by simp) rfl rfl hA (((HR.out.drewN q0).alloc (Nat.le_refl _) _).more (by simp)) hn ?_)
  intro A1 c1 w1 _ hb
  have HB : Hid (Below w.heap.size w w1) := Lib.hid (((below_drewN (Below.refl _ w) q0).alloc (Nat.le_refl _) _).trans hb)
  clear hb
  have HX := Lib.hid (refTransitive_any l A n c w1 ((HR.out.below HB.out).more HB.out.size) HW.out hm hA)
  go_wp2_with fail
  refine (HX.out).mono ?_
  rintro e w2 (⟨_, C, hC, A2, c2, rfl, hR2, hb2⟩ | ⟨hx, _⟩)
  · have HC : Hid (IsClo n PTrans l C) := Lib.hid hC
    have hlen : C.length = n := HC.out.sh.1
    have HQ := Lib.hid (same_any C l A2 A n n c2 c w2.heap.size w2 (by have := hR2; rwa [hlen] at this) ((HR.out.below (HB.out.trans (hb2.mono HB.out.size))).more (Nat.le_trans HB.out.size hb2.size)) hm hm)
    have HB2 := Lib.hid (HB.out.trans (hb2.mono HB.out.size))
    rw [← hlen] at HQ
    clear hC hR2 hb2
    go_wp2_with fail
    simp only [hlen] at HQ ⊢
    refine (HQ.out).mono ?_
    rintro e w3 ⟨rfl, q, rfl⟩
    go_wp2
    go_ret
    exact ⟨_, rfl, by rw [decide_eq_true_eq]; exact HC.out.fixed HS.out, below_drewN HB2.out q⟩
  · rw [HS.out.1] at hx
    exact absurd H0.out hx
set_option maxRecDepth 100000 in
theorem refHasEuclidean_any (l : List Nat) (A : Option Addr) (n c : Nat) (w : World) (hR : Reads w w.heap.size 1 A n (us l)) (hw : Words l) (hm : n ≤ maxLen) (hA : A = none → c = 0) (h0 : relErr n l = 0) :
    Calls Tryz.prog 39 #[.slice A n c, .int .i64 5] w (GivesB (PEucl l) w) := by
  have e1 := hR.word_len
  have hn : n ≤ 64 := relErr_zero h0
  have HV := Lib.hid (ref2Valid_any l A n c _ w hR hw hm)
  rw [decide_eq_true h0] at HV
  have HR := Lib.hid hR
  have HS : Hid (Sh n l) := Lib.hid ⟨e1, relErr_rows h0⟩
  have HW := Lib.hid hw
  have H0 := Lib.hid h0
  clear hR hw h0 e1
  go_enter Tryz.func39, Tryz.ntmps39
  go_wp2_with fail
  refine (HV.out).mono ?_
  rintro e w0 ⟨rfl, q0, rfl⟩
  go_wp2_with (at_builtin; refine wp_copy _ rfl _ _ rfl (w.drewN q0).heap.size (w.drewN q0).heap.size (Nat.le_refl _) (World.ownsRow_made (w.drewN q0) #[] 0 (Nat.le_refl _) (Nat.zero_le _) (by simp)) (by simp) rfl rfl hA (((HR.out.drewN q0).alloc (Nat.le_refl _) _).more (by simp)) hn ?_)
  intro A1 c1 w1 _ hb
  have HB : Hid (Below w.heap.size w w1) := Lib.hid (((below_drewN (Below.refl _ w) q0).alloc (Nat.le_refl _) _).trans hb)
  clear hb
  have HX := Lib.hid (refEuclidean_any l A n c w1 ((HR.out.below HB.out).more HB.out.size) HW.out hm hA)
  go_wp2_with fail
  refine (HX.out).mono ?_
  rintro e w2 (⟨_, C, hC, A2, c2, rfl, hR2, hb2⟩ | ⟨hx, _⟩)
  · have HC : Hid (IsClo n PEucl l C) := Lib.hid hC
    have hlen : C.length = n := HC.out.sh.1
    have HQ := Lib.hid (same_any C l A2 A n n c2 c w2.heap.size w2 (by have := hR2; rwa [hlen] at this) ((HR.out.below (HB.out.trans (hb2.mono HB.out.size))).more (Nat.le_trans HB.out.size hb2.size)) hm hm)
    have HB2 := Lib.hid (HB.out.trans (hb2.mono HB.out.size))
    rw [← hlen] at HQ
    clear hC hR2 hb2
    go_wp2_with fail
    simp only [hlen] at HQ ⊢
    refine (HQ.out).mono ?_
    rintro e w3 ⟨rfl, q, rfl⟩
    go_wp2
    go_ret
    exact ⟨_, rfl, by rw [decide_eq_true_eq]; exact HC.out.fixed HS.out, below_drewN HB2.out q⟩
  · rw [HS.out.1] at hx
    exact absurd H0.out hx
theorem refHas_any (l : List Nat) (A : Option Addr) (n c : Nat) (p : Int) (w : World) (hR : Reads w w.heap.size 1 A n (us l)) (hw : Words l) (hm : n ≤ maxLen) (hA : A = none → c = 0) :
    Calls Tryz.prog 39 #[.slice A n c, .int .i64 p] w (GivesB (relErr n l = 0 ∧ HasP n p l) w) := by
  by_cases h0 : relErr n l = 0
  · by_cases hp : 1 ≤ p ∧ p ≤ 5
    · have hc : p = 1 ∨ p = 2 ∨ p = 3 ∨ p = 4 ∨ p = 5 := by omega
      rcases hc with rfl | rfl | rfl | rfl | rfl
      · exact (refHasSerial_any l A n c w hR hw hm hA h0).mono fun _ _ h => h.congr (by rw [hasP1]; exact ⟨fun x => ⟨h0, x⟩, fun x => x.2⟩)
      · exact (refHasReflexive_any l A n c w hR hw hm hA h0).mono fun _ _ h => h.congr (by rw [hasP2]; exact ⟨fun x => ⟨h0, x⟩, fun x => x.2⟩)
      · exact (refHasSymmetric_any l A n c w hR hw hm hA h0).mono fun _ _ h => h.congr (by rw [hasP3]; exact ⟨fun x => ⟨h0, x⟩, fun x => x.2⟩)
      · exact (refHasTransitive_any l A n c w hR hw hm hA h0).mono fun _ _ h => h.congr (by rw [hasP4]; exact ⟨fun x => ⟨h0, x⟩, fun x => x.2⟩)
      · exact (refHasEuclidean_any l A n c w hR hw hm hA h0).mono fun _ _ h => h.congr (by rw [hasP5]; exact ⟨fun x => ⟨h0, x⟩, fun x => x.2⟩)
    · exact (refHasOther_any l A n c p w hR hw hm hA h0 hp).mono fun _ _ h => h.congr ⟨False.elim, fun x => hasPno n p l hp x.2⟩
  · exact (refHasNot_any l A n c p w hR hw hm h0).mono fun _ _ h => h.congr ⟨False.elim, fun x => h0 x.1⟩
end Go.Proofs.YtjpmhbnikoggaaaGreatDoor
/- Layer 15: Has and In by the reference. -/
namespace Go.Proofs.YtjpmhbnikoggaaaGreatDoor
open Go.RowKit Go.Proofs.Ws
set_option maxRecDepth 100000
set_option maxHeartbeats 4000000 in
theorem rHasG_any (l : List Nat) (A : Option Addr) (n c : Nat) (g : Int) (w : World) (hR : Reads w w.heap.size 1 A n (us l)) (hw : Words l) (hm : n ≤ maxLen) (hA : A = none → c = 0) :
    Calls Tryz.prog 12 #[.slice A n c, .int .i64 g] w fun e w' => e = .returned (.bool (qB (HasG l g))) ∧ Below w.heap.size w w' := by
  have hl := hR.word_len
  have hp3 := proL_len g
  have HP := Lib.hid (rPro_any g w)
  unfold GivesP at HP
  have HV := Lib.hid (fun W (hb : Below w.heap.size w W) => ref2Valid_any l A n c W.heap.size W ((hR.below hb).more hb.size) hw hm)
  have HH := Lib.hid (fun W (hb : Below w.heap.size w W) (p : Int) => refHas_any l A n c p W ((hR.below hb).more hb.size) hw hm hA)
  unfold GivesB at HH
  have HQ : Hid (HasG l g ↔ proE g = 0 ∧ relErr n l = 0 ∧ ∀ p ∈ proL g, relErr n l = 0 ∧ HasP n p l) := Lib.hid (by unfold HasG HasQ; rw [hl])
  clear hR hw hl hm hA
  obtain ⟨b, hb⟩ : ∃ b, qB (HasG l g) = b := ⟨_, rfl⟩
  have HB := Lib.hid hb
  rw [hb]
  clear hb
  generalize hPL : proL g = PL at *
  have HPL := Lib.hid hPL
  clear hPL
  generalize hk : PL.length = k at *
  have HKK := Lib.hid hk
  clear hk
  by_cases hg : proE g = 0
  case neg =>
    have HF : Hid (b = false) := Lib.hid (by rw [← HB.out]; exact qB_false (fun h => hg (HQ.out.1 h).1))
    have hg1 : (proE g != 0) = true := by rw [bne_iff_ne]; exact hg
    clear hg HQ HB
    generalize proE g = pe at *
    go_enter Tryz.func12, Tryz.ntmps12
    go_wp2_with fail
    refine (HP.out).mono ?_
    rintro e w1 ⟨D, d, rfl, _, hb⟩
    have HB1 := Lib.hid hb
    clear hb
    go_wp2
    go_ret
    exact ⟨ret_bool HF.out.symm, HB1.out⟩
  rw [hg] at HP
  by_cases h0 : relErr n l = 0
  case neg =>
    have HF : Hid (b = false) := Lib.hid (by rw [← HB.out]; exact qB_false (fun h => h0 (HQ.out.1 h).2.1))
    rw [decide_eq_false h0] at HV
    clear hg h0 HQ HB HH
    go_enter Tryz.func12, Tryz.ntmps12
    go_wp2_with fail
    refine (HP.out).mono ?_
    rintro e w1 ⟨D, d, rfl, _, hb⟩
    have HB1 := Lib.hid hb
    clear hb
    go_wp2_with fail
    refine (HV.out _ HB1.out).mono ?_
    rintro e w2 ⟨rfl, q, rfl⟩
    go_wp2
    go_ret
    exact ⟨ret_bool HF.out.symm, below_drewN HB1.out q⟩
  rw [decide_eq_true h0] at HV
  have HQ2 : Hid (b = true ↔ ∀ p ∈ PL, relErr n l = 0 ∧ HasP n p l) := Lib.hid (by rw [← HB.out, qB_iff, HQ.out]; exact ⟨fun h => h.2.2, fun h => ⟨hg, h0, h⟩⟩)
  clear hg h0 HQ HB
  go_enter Tryz.func12, Tryz.ntmps12
  go_wp2_with fail
  refine (HP.out).mono ?_
  rintro e w1 ⟨D, d, rfl, hr, hb⟩
  have HB1 := Lib.hid hb
  have HR := Lib.hid hr
  clear hb hr
  go_wp2_with fail
  refine (HV.out _ HB1.out).mono ?_
  rintro e w2 ⟨rfl, q, rfl⟩
  have HBq : Hid (Below w1.heap.size w1 (w1.drewN q)) := Lib.hid (below_drewN (Below.refl _ _) q)
  generalize w1.drewN q = w2 at *
  go_wp2
  go_loopw [7] (fun i wr => ∃ j : Nat, j ≤ k ∧ i = .int .i64 (j : Int) ∧ Hid (∀ p ∈ PL.take j, relErr n l = 0 ∧ HasP n p l) ∧ Hid (Below w1.heap.size w1 wr)) (fun i _ => k - (intOf i).toNat)
  case atStart => exact ⟨0, Nat.zero_le _, rfl, Lib.hid (fun p hp => by simp at hp), HBq⟩
  case round =>
    obtain ⟨j, hj, rfl, HI, HBr⟩ := hrel
    by_cases hlt : j < k
    · obtain ⟨aq, rfl, _, hcj⟩ := ((HR.out.below HBr.out).more HBr.out.size).int_k hlt
      have hjl : j < PL.length := by have := HKK.out; omega
      have HT : Hid (PL.take (j + 1) = PL.take j ++ [PL.getD j 0]) := Lib.hid (by rw [List.take_succ_eq_append_getElem hjl, List.getD_eq_getElem?_getD, List.getElem?_eq_getElem hjl]; rfl)
      have HM : Hid (PL.getD j 0 ∈ PL) := Lib.hid (getD_memI hjl)
      generalize PL.getD j 0 = p at *
      have HC := Lib.hid (HH.out wr (HB1.out.trans (HBr.out.mono HB1.out.size)) p)
      go_wp2_with fail
      refine (HC.out).mono ?_
      rintro e w3 ⟨b3, rfl, hb3, hb⟩
      have HB3 := Lib.hid (HBr.out.trans (hb.mono HBr.out.size))
      have HB33 := Lib.hid hb3
      clear hb hb3 hcj
      cases b3 with
      | true =>
        have HI2 : Hid (∀ p ∈ PL.take (j + 1), relErr n l = 0 ∧ HasP n p l) := Lib.hid (fun p' hp' => by
          rw [HT.out] at hp'
          rcases List.mem_append.1 hp' with h1 | h1
          · exact HI.out p' h1
          · rw [List.mem_singleton.1 h1]; exact HB33.out.1 rfl)
        go_wp2
        go_roundw
        case rel => exact ⟨j + 1, by omega, by go_num, HI2, HB3⟩
        case measure => first | (simp [intOf]; done) | (simp [intOf]; omega)
      | false =>
        have HF : Hid (b = false) := Lib.hid (by
          cases e : b with
          | false => rfl
          | true => exact absurd (HB33.out.2 (HQ2.out.1 e p HM.out)) (by decide))
        go_wp2
        go_ret
        exact ⟨ret_bool HF.out.symm, HB1.out.trans (HB3.out.mono HB1.out.size)⟩
    · have HF : Hid (b = true) := Lib.hid (HQ2.out.2 (fun p hp => HI.out p (by rw [List.take_of_length_le (by have := HKK.out; omega)]; exact hp)))
      go_wp2
      go_ret
      exact ⟨ret_bool HF.out.symm, HB1.out.trans (HBr.out.mono HB1.out.size)⟩
theorem inG_rows {m : Mo} {g : Int} (hg : proE g = 0) (hz : chkM m = 0) : InG m g ↔ ∀ a, a < m.rel.length → HasG (m.rel.getD a []) g := by
  have hok := chkM_ok hz
  have hck : ckE m g = 0 := by unfold ckE; rw [if_pos hz]; exact hg
  constructor
  · intro h a ha
    have hm : m.rel.getD a [] ∈ m.rel := getD_mem' ha
    exact ⟨hg, relErr_ok (by rw [hok.len _ hm]; exact hok.le) (by rw [hok.len _ hm]; exact hok.rel _ hm), h.2 _ hm⟩
  · intro h
    refine ⟨hck, fun l hl => ?_⟩
    obtain ⟨a, ha, rfl⟩ := rel_at hl
    exact (h a ha).2.2
set_option maxHeartbeats 4000000 in
theorem rInG_any (m : Mo) (v : Value) (g : Int) (w : World) (hM : MoR w w.heap.size v m) :
    Calls Tryz.prog 14 #[v, .int .i64 g] w fun e w' => e = .returned (.bool (qB (InG m g))) ∧ Below w.heap.size w w' := by
  obtain ⟨A1, c1, A2, c2, rfl, hv, hr⟩ := hM.ex
  have HB0 := Lib.hid ((Below.refl w.heap.size w).alloc (Nat.le_refl _) (.cells #[.int .i64 m.n, .slice A1 m.val.length c1, .slice A2 m.rel.length c2] 25))
  have KB0 := Lib.hid (MBox.made w m.n (.slice A1 m.val.length c1) (.slice A2 m.rel.length c2))
  have HP := Lib.hid (fun W => rPro_any g W)
  unfold GivesP at HP
  have HC := Lib.hid (fun W (hb : Below w.heap.size w W) => rCheck_any m _ W (hM.below hb hb.size))
  have HRR := Lib.hid hr
  have HWR := Lib.hid hM.wrel
  have HIF : Hid (proE g ≠ 0 ∨ chkM m ≠ 0 → qB (InG m g) = false) := Lib.hid (fun h => qB_false (fun k => by
    have h2 := k.1
    unfold ckE at h2
    rcases h with h | h
    · by_cases hz : chkM m = 0
      · rw [if_pos hz] at h2; exact h h2
      · rw [if_neg hz] at h2; exact hz h2
    · rw [if_neg h] at h2; exact h h2))
  have HIR := Lib.hid (inG_rows (m := m) (g := g))
  have HOK := Lib.hid (chkM_ok (m := m))
  clear hM hv hr
  obtain ⟨b, hb⟩ : ∃ b, qB (InG m g) = b := ⟨_, rfl⟩
  have HB := Lib.hid hb
  rw [hb] at HIF ⊢
  clear hb
  generalize (proL g).length = k at *
  by_cases hg : proE g = 0
  case neg =>
    have HF := Lib.hid (HIF.out (.inl hg))
    have hg1 : (proE g != 0) = true := by rw [bne_iff_ne]; exact hg
    clear hg HIR HIF
    generalize proE g = pe at *
    go_enter Tryz.func14, Tryz.ntmps14
    go_wp2_with fail
    refine (HP.out _).mono ?_
    rintro e w1 ⟨D, d, rfl, _, hb⟩
    have HB1 := Lib.hid (HB0.out.trans (hb.mono HB0.out.size))
    clear hb
    go_wp2
    go_ret
    exact ⟨ret_bool HF.out.symm, HB1.out⟩
  by_cases hz : chkM m = 0
  case neg =>
    have HF := Lib.hid (HIF.out (.inr hz))
    have hz1 : (chkM m != 0) = true := by rw [bne_iff_ne]; exact hz
    rw [hg] at HP
    clear hg hz HIR HIF HOK
    generalize chkM m = cm at *
    go_enter Tryz.func14, Tryz.ntmps14
    go_wp2_with fail
    refine (HP.out _).mono ?_
    rintro e w1 ⟨D, d, rfl, _, hb⟩
    have HB1 := Lib.hid (HB0.out.trans (hb.mono HB0.out.size))
    have KB1 := Lib.hid (KB0.out.below hb KB0.out.lt)
    clear hb
    have b0 := KB1.out.c0
    have b1 := KB1.out.c1
    have b2 := KB1.out.c2
    go_wp2_with fail
    refine (HC.out _ HB1.out).mono ?_
    rintro e w2 ⟨rfl, hb⟩
    have HB2 := Lib.hid (HB1.out.trans (hb.mono HB1.out.size))
    clear hb b0 b1 b2
    go_wp2
    go_ret
    exact ⟨ret_bool HF.out.symm, HB2.out⟩
  have HQ : Hid (b = true ↔ ∀ a, a < m.rel.length → HasG (m.rel.getD a []) g) := Lib.hid (by rw [← HB.out, qB_iff]; exact HIR.out hg hz)
  have HO := Lib.hid (HOK.out hz)
  have hr4 : m.rel.length ≤ 4 := (HOK.out hz).agents
  rw [hg] at HP
  rw [hz] at HC
  clear hg hz HIR HIF HOK HB
  generalize hnr : m.rel.length = nr at *
  have HNR := Lib.hid hnr
  clear hnr
  go_enter Tryz.func14, Tryz.ntmps14
  go_wp2_with fail
  refine (HP.out _).mono ?_
  rintro e w1 ⟨D, d, rfl, _, hb⟩
  have HB1 := Lib.hid (HB0.out.trans (hb.mono HB0.out.size))
  have KB1 := Lib.hid (KB0.out.below hb KB0.out.lt)
  clear hb
  have b0 := KB1.out.c0
  have b1 := KB1.out.c1
  have b2 := KB1.out.c2
  go_wp2_with fail
  refine (HC.out _ HB1.out).mono ?_
  rintro e w2 ⟨rfl, hb⟩
  have HB2 := Lib.hid (HB1.out.trans (hb.mono HB1.out.size))
  have KB2 := Lib.hid (KB1.out.below hb KB1.out.lt)
  clear hb b0 b1 b2
  go_wp2
  go_loopw [7] (fun i wr => ∃ a : Nat, a ≤ nr ∧ i = .int .i64 (a : Int) ∧ Hid (∀ j, j < a → HasG (m.rel.getD j []) g) ∧ Hid (Below w2.heap.size w2 wr)) (fun i _ => nr - (intOf i).toNat)
  case atStart => exact ⟨0, Nat.zero_le _, rfl, Lib.hid (fun j hj => absurd hj (by omega)), Lib.hid (Below.refl _ _)⟩
  case round =>
    obtain ⟨a, ha, rfl, HI, HBr⟩ := hrel
    have b2 := (KB2.out.below HBr.out KB2.out.lt).c2
    by_cases hlt : a < nr
    · obtain ⟨ad, Aj, cj, rfl, hb, hc0, hrj, hlj⟩ := HRR.out.at_ hlt
      have hm : m.rel.getD a [] ∈ m.rel := getD_mem' (by have := HNR.out; omega)
      have hz0 := ((HB2.out.trans (HBr.out.mono HB2.out.size)).cell (p := ad.add a) (by rw [block_of_add]; exact hb)).trans hc0
      have HAN : Hid (Aj = none → cj = 0) := Lib.hid (fun e => by
        obtain ⟨ad2, e2, _⟩ := hrj.word_k (show 0 < (m.rel.getD a []).length by rw [HO.out.len _ hm]; exact HO.out.pos)
        rw [e] at e2
        cases e2)
      have HWO : Hid (Words (m.rel.getD a [])) := Lib.hid (HWR.out _ hm)
      have HCA := Lib.hid (rHasG_any (m.rel.getD a []) Aj _ cj g wr ((hrj.below (HB2.out.trans (HBr.out.mono HB2.out.size))).more (HB2.out.trans (HBr.out.mono HB2.out.size)).size) HWO.out hlj HAN.out)
      have HQA := Lib.hid (qB_iff (HasG (m.rel.getD a []) g))
      generalize qB (HasG (m.rel.getD a []) g) = ba at *
      generalize (m.rel.getD a []).length = q at *
      clear hb hc0 hrj hlj hm
      go_wp2_with fail
      refine (HCA.out).mono ?_
      rintro e w3 ⟨rfl, hb⟩
      have HB3 := Lib.hid (HBr.out.trans (hb.mono HBr.out.size))
      clear hb hz0 b2
      cases ba with
      | true =>
        have HI2 : Hid (∀ j, j < a + 1 → HasG (m.rel.getD j []) g) := Lib.hid (fun j hj => by
          by_cases e : j = a
          · rw [e]; exact HQA.out.1 rfl
          · exact HI.out j (by omega))
        go_wp2
        go_roundw
        case rel => exact ⟨a + 1, by omega, by go_num, HI2, HB3⟩
        case measure => first | (simp [intOf]; done) | (simp [intOf]; omega)
      | false =>
        have HF : Hid (b = false) := Lib.hid (by
          cases e : b with
          | false => rfl
          | true => exact absurd (HQA.out.2 (HQ.out.1 e a hlt)) (by decide))
        go_wp2
        go_ret
        exact ⟨ret_bool HF.out.symm, HB2.out.trans (HB3.out.mono HB2.out.size)⟩
    · have HF : Hid (b = true) := Lib.hid (HQ.out.2 (fun j hj => HI.out j (by omega)))
      go_wp2
      go_ret
      exact ⟨ret_bool HF.out.symm, HB2.out.trans (HBr.out.mono HB2.out.size)⟩
end Go.Proofs.YtjpmhbnikoggaaaGreatDoor
