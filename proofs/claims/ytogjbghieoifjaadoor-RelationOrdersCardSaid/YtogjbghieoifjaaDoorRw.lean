/- Contracts of layer 2: the path of the program. -/
import Derived.Test.YtogjbghieoifjaaDoorRv
namespace Go.Proofs.YtogjbghieoifjaaDoor
open Go.RowKit Go.Proofs.Ws
theorem Tryd.infoI : (Tryd.prog.info? 3).map (fun i => (i.zero, i.size, i.bytes)) = some (some (.int .i64 0), 1, 8) := by kernel_rfl
theorem own_gives {w w' : World} {v : Value} {L : List Nat} (h : w'.ownsRow w.heap.size 3 1 v L.length (iv L)) (hb : Below w.heap.size w w') : GivesI L w (.returned v) w' := by
  obtain ⟨A, c, rfl, hR⟩ := own_reads h
  exact ⟨A, c, rfl, hR, hb⟩
set_option maxRecDepth 100000 in
set_option maxHeartbeats 2000000 in
theorem path_any (R : List Nat) (frm s : Nat) (A : Option Addr) (n c : Nat) (w : World) (hR : Reads w w.heap.size 1 A n (us R)) (hw : Words R) (hm : n ≤ maxLen) (hf : frm < 18446744073709551616) (hs : s < 18446744073709551616) (hT : Tab w) :
    Calls Tryd.prog 37 #[.slice A n c, .int .u64 frm, .int .u64 s] w fun e w' => ∃ p, PathIs R n frm s p ∧ GivesI p w e w' := by
  have HV := Lib.hid (valid_any R A n c _ w hR hw hm)
  by_cases h0 : relErr n R = 0
  · obtain ⟨j0, hj, hy0, hy1, hy2⟩ := info_parts Tryd.infoI
    have hl := hR.word_len
    have hn : n ≤ 64 := relErr_zero h0
    have HST := Lib.hid (stepsTo_any R frm s A n c w hR hw h0 hf hs)
    rw [decide_eq_true h0] at HV
    have HR := Lib.hid hR
    have HL := Lib.hid hl
    have H0 := Lib.hid h0
    have HF := Lib.hid hf
    have HSs := Lib.hid hs
    have HT := Lib.hid hT
    have HW := Lib.hid hw
    clear hR hw hl h0 hf hs hT
    go_enter Tryd.func37, Tryd.ntmps37
    go_wp2_with fail
    refine (HV.out).mono ?_
    rintro e w0 ⟨rfl, rfl⟩
    go_wp2_with fail
    refine (HST.out).mono ?_
    rintro e w1 ⟨⟨hno, rfl⟩ | ⟨K, A1, c1, hK, hbef, hhit, rfl, hR1⟩, hb⟩
    · have HN := Lib.hid hno
      have HB := Lib.hid hb
      clear hno hb
      go_wp2
      go_ret
      exact ⟨[], .inr (.inl ⟨H0.out, HN.out, rfl⟩), none, 0, rfl, Reads.none_, HB.out⟩
    · obtain ⟨ad, rfl, _, hc1⟩ := hR1.word_k (show K + 1 < K + 2 by omega)
      rw [lvls_getD _ _ _ _ (by omega)] at hc1
      have hd64 := lvl_64 H0.out HL.out HSs.out (K + 1)
      have hand : bits .and .u64 (frm : Int) (lvl R s (K + 1) : Int) = ((frm &&& lvl R s (K + 1) : Nat) : Int) := u64_and_nat _ _ HF.out hd64
      have hx64 : frm &&& lvl R s (K + 1) < 18446744073709551616 := Nat.lt_of_le_of_lt Nat.and_le_left HF.out
      have HWAY : Hid (OnWay R n s K (K + 2) (frm &&& lvl R s (K + 1))) := Lib.hid (OnWay.start hx64 (by rw [Nat.and_assoc, Nat.and_self]; exact hhit))
      have HP : Hid (PathIs R n frm s (down R (lvl R s) (K + 2) (frm &&& lvl R s (K + 1)))) := Lib.hid (.inr (.inr ⟨H0.out, K, hK, hbef, hhit, down_and R (lvl R s) (K + 1) frm⟩))
      have HR1 := Lib.hid hR1
      have HB := Lib.hid hb
      generalize frm &&& lvl R s (K + 1) = x0 at hand HWAY HP
      generalize lvl R s (K + 1) = d0 at hand hc1
      clear hbef hhit hR1 hb hd64 hx64
      go_wp2_with (at_make; refine wpList_make_own _ rfl _ _ 37 rfl w1.heap.size 3 j0 (.int .i64 0) 1 Tryd.underlying37 hj hy0 hy1 .i64 .i64 _ (K + 2) rfl rfl rfl ?c1 ?c2 ?c3 ?_)
      case c1 => rw [hy2]; omega
      case c2 => unfold maxLen; omega
      case c3 => omega
      intro w2 hown2 hg2
      have hb2 : Below w1.heap.size w1 w2 := (Below.refl _ _).grown hg2 (Nat.le_refl _) (fun k h => by cases h)
      obtain ⟨M, hM⟩ : ∃ M, M = K + 1 := ⟨_, rfl⟩
      have hKK : (K : Int) + 2 - 1 = (M : Int) := by omega
      have hM2 : M < K + 2 := by omega
      have hc2 : w2.cell? (ad.add M) = some (.int .u64 (d0 : Int)) := by
        obtain ⟨ad', hA', hlt', _⟩ := HR1.out.word_k (show K + 1 < K + 2 by omega)
        cases hA'
        rw [hM, hb2.cell (by rw [block_of_add]; exact hlt')]; exact hc1
      have HM := Lib.hid hM
      have HB2 := Lib.hid hb2
      clear hg2 hb2
      simp only [hKK]
      clear hKK hM
      go_wp2
      go_loopw [9, 10, 11] (fun v x i wr => ∃ (c y : Nat) (z : Int) (L : List Nat), z = (c : Int) - 1 ∧ wr.ownsRow w1.heap.size 3 1 v L.length (iv L) ∧ x = .int .u64 y ∧ i = .int .i64 z ∧ Hid (OnWay R n s K c y ∧ L ++ down R (lvl R s) c y = down R (lvl R s) (K + 2) x0 ∧ Below w1.heap.size w1 wr)) (fun _ _ i _ => (intOf i + 1).toNat)
      case atStart => exact ⟨K + 2, x0, _, [], by have := HM.out; omega, hown2, rfl, rfl, Lib.hid ⟨HWAY.out, rfl, HB2.out⟩⟩
      case round =>
        clear hc2 hown2 hc1 hand
        obtain ⟨c, y, z, L, hz, hown, rfl, rfl, HI⟩ := hrel
        cases c with
        | zero =>
          have hzl : z < 0 := by omega
          clear hz
          have HE : Hid (L = down R (lvl R s) (K + 2) x0) := Lib.hid (by rw [← HI.out.2.1]; simp [down])
          have HB3 : Hid (Below w.heap.size w wr) := Lib.hid (HB.out.trans (HI.out.2.2.mono HB.out.size))
          obtain ⟨A4, c4, rfl, hR4⟩ := own_reads hown
          have HR4 := Lib.hid hR4
          clear HI hown hR4
          go_wp2
          go_ret
          exact ⟨L, by rw [HE.out]; exact HP.out, A4, c4, rfl, HR4.out, HB3.out⟩
        | succ c =>
          obtain rfl : z = (c : Int) := by omega
          clear hz
          have hpt := HI.out.1.point H0.out HL.out
          have hsm := HI.out.1.small H0.out HL.out
          have hne := HI.out.1.hit (by omega)
          rw [Nat.add_sub_cancel] at hne
          have hcK : c < K + 2 := by have := HI.out.1.le; omega
          obtain ⟨ad', hA', _, hc2⟩ := ((HR1.out.below HI.out.2.2).more HI.out.2.2.size).word_k hcK
          cases hA'
          rw [lvls_getD _ _ _ _ hcK] at hc2
          have hand : bits .and .u64 (y : Int) (lvl R s c : Int) = ((y &&& lvl R s c : Nat) : Int) := u64_and_nat _ _ HI.out.1.lt (lvl_64 H0.out HL.out HSs.out c)
          have HZ := Lib.hid (tz_any (y &&& lvl R s c) wr (Nat.lt_of_le_of_lt Nat.and_le_left HI.out.1.lt) hne (HT.out.belowAt (HB.out.trans (HI.out.2.2.mono HB.out.size)) HT.out.2))
          have HNX := Lib.hid (HI.out.1.next H0.out HL.out)
          have HEQ : Hid ((L ++ [low (y &&& lvl R s c)]) ++ down R (lvl R s) c (R.getD (low (y &&& lvl R s c)) 0) = down R (lvl R s) (K + 2) x0) := Lib.hid (by rw [← HI.out.2.1]; simp [down])
          have HB3 : Hid (Below w1.heap.size w1 wr) := Lib.hid HI.out.2.2
          have hL : L.length ≤ 66 := by
            have h1 := congrArg List.length HI.out.2.1
            rw [List.length_append, down_len, down_len] at h1
            omega
          have HPT := Lib.hid hpt.1
          generalize y &&& lvl R s c = t at *
          generalize lvl R s c = d at *
          generalize low t = q at *
          have hsz := HB3.out.size
          clear HI hpt hne
          go_wp2_with (first
            | (go_at_call 70; refine (HZ.out).mono ?_; rintro e w' ⟨rfl, rfl⟩)
            | (at_builtin; refine wpList_append_own _ rfl _ _ 37 rfl w1.heap.size 3 j0 (.int .i64 0) 1 8 Tryd.underlying37 hj hy0 hy1 hy2 rfl (by decide) _ _ _ rfl (hown.alloc _) ⟨wr.heap.size, 0, none⟩ 1 1 [.int .i64 q] rfl rfl ?c1 ?c2 ?c3 ?c4 ?c5 ?_))
          case c1 =>
            intro j u hj
            match j, hj with
            | 0, hj => simp at hj; subst hj; simp [Addr.add]
          case c2 => intro u hu; simp at hu; subst hu; rfl
          case c3 => unfold maxLen; omega
          case c4 => omega
          case c5 => simp; omega
          · intro v' w3 hown' hgrow _
            have hb3 : Below w1.heap.size w1 w3 := (HB3.out.alloc hsz _).grown hgrow (by simp; omega) (fun j hj => by have := (hown.lt j hj).1; omega)
            obtain ⟨ad2, rfl, _, hc3⟩ := ((HR.out.below (HB.out.trans (hb3.mono HB.out.size)))).word_k HPT.out
            have hown3 : w3.ownsRow w1.heap.size 3 1 v' (L ++ [q]).length (iv (L ++ [q])) := by rw [iv_append, List.length_append]; exact hown'
            have HB4 := Lib.hid hb3
            have hqn := HPT.out
            clear hgrow hown hown' HZ hb3
            go_wp2
            go_roundw
            case rel => exact ⟨c, R.getD q 0, _, L ++ [q], by omega, hown3, rfl, rfl, Lib.hid ⟨HNX.out, HEQ.out, HB4.out⟩⟩
            case measure => simp [intOf]
  · rw [decide_eq_false h0] at HV
    have H0 := Lib.hid h0
    clear h0 hR hw hf hs hT
    go_enter Tryd.func37, Tryd.ntmps37
    go_wp2_with fail
    refine (HV.out).mono ?_
    rintro e w0 ⟨rfl, rfl⟩
    go_wp2
    go_ret
    exact ⟨[], .inl ⟨H0.out, rfl⟩, none, 0, rfl, Reads.none_, Below.refl _ _⟩
end Go.Proofs.YtogjbghieoifjaaDoor
