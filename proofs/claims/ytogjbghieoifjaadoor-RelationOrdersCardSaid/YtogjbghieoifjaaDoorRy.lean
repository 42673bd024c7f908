/- Contracts of layer 2's reference: Path. -/
import Derived.Test.YtogjbghieoifjaaDoorRx
namespace Go.Proofs.YtogjbghieoifjaaDoor
open Go.RowKit Go.Proofs.Ws
theorem ref_path_is {R : List Nat} {n frm s K : Nat} (h0 : relErr n R = 0) (hl : R.length = n) (hf : frm < 18446744073709551616) (hK : K < n) (hbef : ∀ j, j < K → lvl R (s &&& allV n) (j + 1) &&& frm = 0) (hhit : lvl R (s &&& allV n) (K + 1) &&& frm ≠ 0) :
    PathIs R n frm s (down R (lvl R (s &&& allV n)) (K + 2) (lvl R (s &&& allV n) (K + 1) &&& frm)) := by
  rw [lvl_all h0 hl] at hhit
  refine .inr (.inr ⟨h0, K, hK, fun j hj => ?_, by rw [Nat.and_comm]; exact hhit, ?_⟩)
  · have := hbef j hj
    rw [lvl_all h0 hl] at this
    rw [Nat.and_comm]; exact this
  · rw [lvl_all h0 hl, Nat.and_comm (lvl R s (K + 1)) frm, down_all h0 hl (K + 2) _ (OnWay.start (Nat.lt_of_le_of_lt Nat.and_le_left hf) (by rw [Nat.and_assoc, Nat.and_self, Nat.and_comm]; exact hhit))]
    exact down_and R (lvl R s) (K + 1) frm
set_option maxRecDepth 100000 in
set_option maxHeartbeats 2000000 in
theorem refPath_any (R : List Nat) (frm s : Nat) (A : Option Addr) (n c : Nat) (w : World) (hR : Reads w w.heap.size 1 A n (us R)) (hw : Words R) (hm : n ≤ maxLen) (hf : frm < 18446744073709551616) (hs : s < 18446744073709551616) :
    Calls Tryd.prog 38 #[.slice A n c, .int .u64 frm, .int .u64 s] w fun e w' => ∃ p, PathIs R n frm s p ∧ GivesI p w e w' := by
  have HV := Lib.hid (ref2Valid_any R A n c _ w hR hw hm)
  by_cases h0 : relErr n R = 0
  · obtain ⟨i0, hi, hz0, hz1, hz2⟩ := info_parts Tryd.infoU
    have hl := hR.word_len
    have hn : n ≤ 64 := relErr_zero h0
    rw [decide_eq_true h0] at HV
    have HR := Lib.hid hR
    have HL := Lib.hid hl
    have H0 := Lib.hid h0
    have HF := Lib.hid hf
    have HW := Lib.hid hw
    have hal := allV_lt n
    have hand : bits .and .u64 (s : Int) (allV n : Int) = ((s &&& allV n : Nat) : Int) := u64_and_nat _ _ hs hal
    have hs64 : s &&& allV n < 18446744073709551616 := Nat.lt_of_le_of_lt Nat.and_le_left hs
    obtain ⟨r, hr⟩ : ∃ r, r = s &&& allV n := ⟨_, rfl⟩
    have HRR := Lib.hid hr
    rw [← hr] at hand hs64
    have HSs := Lib.hid hs64
    have HALL := Lib.hid (fun W => ref2All_any n W hn)
    clear hR hw hl h0 hf hs hr hal hs64
    go_enter Tryd.func38, Tryd.ntmps38
    go_wp2_with fail
    refine (HV.out).mono ?_
    rintro e w0 ⟨rfl, q0, rfl⟩
    have hB0 : Below w.heap.size w (w.drewN q0) := below_drewN (Below.refl _ _) q0
    have hR0 := HR.out.drewN q0
    have hsz0 : (w.drewN q0).heap.size = w.heap.size := rfl
    generalize hw1 : w.drewN q0 = w1 at *
    clear hw1
    have HB0 := Lib.hid hB0
    have HR0 := Lib.hid hR0
    have HI0 : Hid ((w1.alloc (.cells #[.int .u64 r] 34)).ownsRow w.heap.size 34 1 (.slice (some ⟨w1.heap.size, 0, none⟩) 1 1) 1 (us (lvls R r 1)) ∧ Below w.heap.size w (w1.alloc (.cells #[.int .u64 r] 34))) :=
      Lib.hid ⟨by have := World.ownsRow_lit (base := w.heap.size) (e := 34) (size := 1) w1 #[.int .u64 r] 1 (by omega) (by unfold maxLen; omega) (by simp); exact this, hB0.alloc (by omega) _⟩
    clear hB0 hR0 hsz0
    go_wp2_with (go_at_call 40; refine (HALL.out _).mono ?_; rintro e w' ⟨rfl, rfl⟩)
    go_loopw [7, 8] (fun v i wr => ∃ k g cap : Nat, k ≤ n ∧ v = .slice (some ⟨g, 0, none⟩) (k + 1) cap ∧ i = .int .i64 ((k + 1 : Nat) : Int) ∧ Hid (wr.ownsRow w.heap.size 34 1 (.slice (some ⟨g, 0, none⟩) (k + 1) cap) (k + 1) (us (lvls R r (k + 1))) ∧ Below w.heap.size w wr ∧ ∀ j, j < k → lvl R r (j + 1) &&& frm = 0)) (fun _ i _ => n + 1 - (intOf i).toNat)
    case atStart => exact ⟨0, w1.heap.size, 1, Nat.zero_le _, rfl, rfl, Lib.hid ⟨HI0.out.1, HI0.out.2, fun j hj => absurd hj (by omega)⟩⟩
    case round =>
      clear HI0
      obtain ⟨k, g, cap, hk, rfl, rfl, HI⟩ := hrel
      by_cases hlt : k < n
      · have hH : HoldsP wr g (lvls R r (k + 1)) := own_holds (by rw [lvls_len]; exact HI.out.1)
        have hc := hH.cell k (by rw [lvls_len]; omega)
        rw [lvls_getD _ _ _ _ (by omega)] at hc
        have HD := Lib.hid (ref_dia R (lvl R r k) A n c wr ((HR.out.below HI.out.2.1).more HI.out.2.1.size) HW.out hm (lvl_64 H0.out HL.out HSs.out k))
        clear hH
        go_wp2_with fail
        refine (HD.out).mono ?_
        rintro e w2 ⟨rfl, q, rfl⟩
        have hb2 : Below wr.heap.size wr (wr.drewN q) := below_drewN (Below.refl _ _) q
        have hown : (wr.drewN q).ownsRow w.heap.size 34 1 (.slice (some ⟨g, 0, none⟩) (k + 1) cap) (k + 1) (us (lvls R r (k + 1))) := own_below HI.out.1 hb2
        have hb : Below w.heap.size w (wr.drewN q) := HI.out.2.1.trans (hb2.mono HI.out.2.1.size)
        generalize hw2 : wr.drewN q = w2 at *
        clear hw2
        have hsz := hb.size
        have HQ : Hid (∀ j, j < k → lvl R r (j + 1) &&& frm = 0) := Lib.hid HI.out.2.2
        have hdl : whV (pDia (lvl R r k)) R = lvl R r (k + 1) := rfl
        have hd64 := lvl_64 H0.out HL.out HSs.out (k + 1)
        rw [hdl] at *
        have HE : Hid (lvls R r (k + 1 + 1) = lvls R r (k + 1) ++ [lvl R r (k + 1)]) := Lib.hid (lvls_succ R r (k + 1))
        have hand2 : bits .and .u64 (lvl R r (k + 1) : Int) (frm : Int) = ((lvl R r (k + 1) &&& frm : Nat) : Int) := u64_and_nat _ _ hd64 HF.out
        clear hb2 HI HD hdl hd64
        go_wp2_with (at_builtin; refine wpList_append_own _ rfl _ _ 22 rfl w.heap.size 34 i0 (.int .u64 0) 1 8 Tryd.underlying22 hi hz0 hz1 hz2 rfl (by decide) _ _ _ rfl (hown.alloc _) ⟨w2.heap.size, 0, none⟩ 1 1 [.int .u64 (lvl R r (k + 1))] rfl rfl ?c1 ?c2 ?c3 ?c4 ?c5 ?_)
        case c1 =>
          intro j u hj
          match j, hj with
          | 0, hj => simp at hj; subst hj; simp [Addr.add]
        case c2 => intro u hu; simp at hu; subst hu; rfl
        case c3 => unfold maxLen; omega
        case c4 => omega
        case c5 => simp; omega
        · intro v' w3 hown' hgrow _
          have hb3 : Below w.heap.size w w3 := (hb.alloc hsz _).grown hgrow (by simp; omega) (fun j hj => by have := (hown.lt j hj).1; omega)
          have hlen2 : k + 1 + 1 = (lvls R r (k + 1 + 1)).length := by rw [lvls_len]
          have hown2 : w3.ownsRow w.heap.size 34 1 v' (lvls R r (k + 1 + 1)).length (us (lvls R r (k + 1 + 1))) := by rw [← hlen2, HE.out, us_append]; exact hown'
          obtain ⟨g', cap', rfl, hH'⟩ := own_word hown2 (by omega)
          rw [← hlen2] at hown2
          have hc3 := hH'.cell (k + 1) (by rw [lvls_len]; omega)
          rw [lvls_getD _ _ _ _ (by omega)] at hc3
          have hrd := hH'.reads
          rw [lvls_len] at hrd
          have HN : Hid (w3.ownsRow w.heap.size 34 1 (.slice (some ⟨g', 0, none⟩) (k + 1 + 1) cap') (k + 1 + 1) (us (lvls R r (k + 1 + 1))) ∧ Below w.heap.size w w3 ∧ Reads w3 w3.heap.size 1 (some ⟨g', 0, none⟩) (k + 1 + 1) (us (lvls R r (k + 1 + 1)))) := Lib.hid ⟨hown2, hb3, hrd⟩
          simp only [lvls_len]
          clear hH' hown2 hlen2 hrd
          clear hgrow hown hown' hb hb3 hc
          by_cases hz : lvl R r (k + 1) &&& frm = 0
          · have hne : (((lvl R r (k + 1) &&& frm : Nat) : Int) != 0) = false := by rw [hz]; rfl
            have HZ : Hid (∀ j, j < k + 1 → lvl R r (j + 1) &&& frm = 0) := Lib.hid (fun j hj => by
              by_cases e : j = k
              · subst e; exact hz
              · exact HQ.out j (by omega))
            clear hz
            generalize lvl R r (k + 1) &&& frm = t at hand2 hne ⊢
            generalize lvl R r (k + 1) = d at hand2 hc3 ⊢
            go_wp2
            go_roundw
            case rel => exact ⟨k + 1, g', cap', by omega, rfl, by go_num, Lib.hid ⟨HN.out.1, HN.out.2.1, HZ.out⟩⟩
            case measure => simp [intOf]; omega
          · have hne : (((lvl R r (k + 1) &&& frm : Nat) : Int) != 0) = true := by rw [bne_iff_ne]; omega
            have HP : Hid (PathIs R n frm s (down R (lvl R r) (k + 2) (lvl R r (k + 1) &&& frm))) := Lib.hid (by have hr := HRR.out; subst hr; exact ref_path_is H0.out HL.out HF.out hlt HQ.out hz)
            have HWK := Lib.hid (walk_any R r k (lvl R r (k + 1) &&& frm) A (some ⟨g', 0, none⟩) n c cap' w3 ((HR.out.below HN.out.2.1).more HN.out.2.1.size) HN.out.2.2 H0.out hlt HSs.out (OnWay.start (Nat.lt_of_le_of_lt Nat.and_le_right HF.out) (by rw [Nat.and_comm, ← Nat.and_assoc, Nat.and_self]; exact hz)))
            clear hz
            generalize lvl R r (k + 1) &&& frm = t at hand2 hne HWK HP ⊢
            generalize lvl R r (k + 1) = d at hand2 hc3 ⊢
            go_wp2_with fail
            refine (HWK.out).mono ?_
            rintro e w4 ⟨A4, c4, rfl, hR4, hb4⟩
            have HB4 := Lib.hid (HN.out.2.1.trans (hb4.mono HN.out.2.1.size))
            have HR4 := Lib.hid hR4
            clear hR4 hb4
            go_wp2
            go_ret
            exact ⟨_, HP.out, A4, c4, rfl, HR4.out, HB4.out⟩
      · have hkn : n = k := by omega
        subst hkn
        have HNO : Hid (PathIs R n frm s []) := Lib.hid (.inr (.inl ⟨H0.out, fun j hj => by
          have := HI.out.2.2 j hj
          have hr := HRR.out
          subst hr
          rw [lvl_all H0.out HL.out] at this
          rw [Nat.and_comm]; exact this, rfl⟩))
        have HB := Lib.hid HI.out.2.1
        clear HI
        go_wp2
        go_ret
        exact ⟨[], HNO.out, none, 0, rfl, Reads.none_, HB.out⟩
  · rw [decide_eq_false h0] at HV
    have H0 := Lib.hid h0
    clear h0 hR hw hf hs
    go_enter Tryd.func38, Tryd.ntmps38
    go_wp2_with fail
    refine (HV.out).mono ?_
    rintro e w0 ⟨rfl, q0, rfl⟩
    go_wp2
    go_ret
    exact ⟨[], .inl ⟨H0.out, rfl⟩, none, 0, rfl, Reads.none_, below_drewN (Below.refl _ _) _⟩
end Go.Proofs.YtogjbghieoifjaaDoor
