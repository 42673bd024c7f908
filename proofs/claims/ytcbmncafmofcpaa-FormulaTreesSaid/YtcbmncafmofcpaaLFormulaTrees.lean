/- FormulaTrees (P5.6): the canonical list stands for the same tree, has no equal nodes and no unused ones, and two formulas are equal exactly if their trees are. No condition. -/
import Derived.Test.YtcbmncafmofcpaaMl
import Derived.Test.YtcbmncafmofcpaaMm
import Derived.Test.YtcbmncafmofcpaaNe
namespace Go.Proofs.Ytcbmncafmofcpaa.formulaTrees
open Go.ChangeShapes Go.WideShapes Go.ChangeAt Go.RowKit Go.Proofs.Ytcbmncafmofcpaa Go.Proofs.Ws
set_option maxRecDepth 100000 in
set_option maxHeartbeats 8000000 in
theorem walk (f g : List Nd) (A0 A1 : Option Addr) (n0 n1 c0 c1 : Nat) (w : World) (h0 : NdRow w A0 n0 c0 f) (h1 : NdRow w A1 n1 c1 g) :
    Calls Try.prog 8 #[.slice A0 n0 c0, .slice A1 n1 c1] w fun e w' => e = .returned (.bool true) ∧ Below w.heap.size w w' := by
  have H0 := Lib.hid h0.1
  have H1 := Lib.hid h1.1
  have hm0 := h0.2.2.2
  have hm1 := h1.2.2.2
  have hc0 := h0.2.2.1
  have hc1 := h1.2.2.1
  have HAW := Lib.hid (fun W => awake_any W)
  have HC0 : Hid (∀ W, Below w.heap.size w W → Calls Try.prog 13 #[.slice A0 n0 c0] W fun e w' => e = .returned (.int .i64 (fErr f)) ∧ Below W.heap.size W w') := Lib.hid (fun W h => rCheck_any f A0 n0 c0 W ((H0.out.below h).more h.size) hm0)
  have HC1 : Hid (∀ W, Below w.heap.size w W → Calls Try.prog 13 #[.slice A1 n1 c1] W fun e w' => e = .returned (.int .i64 (fErr g)) ∧ Below W.heap.size W w') := Lib.hid (fun W h => rCheck_any g A1 n1 c1 W ((H1.out.below h).more h.size) hm1)
  have hl0 := h0.1.nd_len
  have hl1 := h1.1.nd_len
  unfold maxLen at hm0 hm1
  clear h0 h1
  by_cases hc_0 : n0 ≤ 14
  · have d0a : decide (14 < (n0 : Int)) = false := decide_eq_false (by omega)
    have d0b : decide (14 < n0) = false := decide_eq_false (by omega)
    by_cases hc_1 : n1 ≤ 14
    · have d1a : decide (14 < (n1 : Int)) = false := decide_eq_false (by omega)
      have d1b : decide (14 < n1) = false := decide_eq_false (by omega)
      by_cases hc_2 : fErr f = 0
      · rw [hc_2] at HC0
        by_cases hc_3 : fErr g = 0
        · rw [hc_3] at HC1
          have hne0 : f.length ≠ 0 := by simpa using (fErr_ok hc_2).1
          have hne1 : g.length ≠ 0 := by simpa using (fErr_ok hc_3).1
          have hq := compF_tree hc_2
          have hqok := compF_ok hc_2
          have hq2 := compF_tree hc_3
          have htr : trOk (treeAt f (f.length - 1)) := treeAt_ok (fErr_ops hc_2) _ _ (Nat.lt_succ_self _) (by omega)
          have htr2 : trOk (treeAt g (g.length - 1)) := treeAt_ok (fErr_ops hc_3) _ _ (Nat.lt_succ_self _) (by omega)
          have hasc := asc_at (fErr_ops hc_2) (fErr_fld hc_2) (show f.length - 1 < f.length by omega)
          have hasc2 := asc_at (fErr_ops hc_3) (fErr_fld hc_3) (show g.length - 1 < g.length by omega)
          have hteq := textB_eq htr htr2 hasc hasc2
          have hceq : compF f = compF g ↔ treeAt f (f.length - 1) = treeAt g (g.length - 1) := by
            rw [hq, hq2]
            exact ⟨canT_inj htr htr2, fun h => by rw [h]⟩
          have hql : (compF f).length ≤ 14 := Nat.le_trans (compF_le f) (by omega)
          have hqt : treeAt (compF f) ((compF f).length - 1) = treeAt f (f.length - 1) := by rw [hq]; exact canT_tree htr
          have hqne : (compF f).length ≠ 0 := by simpa using (fErr_ok hqok).1
          have hqu : ∀ k, k + 1 < (compF f).length → ∃ j, k < j ∧ uses (compF f) j k := by rw [hq]; intro k hk; exact canT_used htr hk
          have hqn : (compF f).Nodup := by rw [hq]; exact canT_nodup _
          obtain ⟨k0, hk0⟩ : ∃ k : Nat, (k : Int) = (n0 : Int) - 1 := ⟨n0 - 1, by omega⟩
          obtain ⟨k1, hk1⟩ : ∃ k : Nat, (k : Int) = (n1 : Int) - 1 := ⟨n1 - 1, by omega⟩
          obtain ⟨kq, hkq⟩ : ∃ k : Nat, (k : Int) = ((compF f).length : Int) - 1 := ⟨(compF f).length - 1, by omega⟩
          have HT0 : Hid (∀ W, Below w.heap.size w W → Calls Try.prog 44 #[.slice A0 n0 c0, .int .i64 (k0 : Int), .int .i64 15] W fun e w' => e = .returned (.tuple #[.string (textB (treeAt f (f.length - 1))), .bool true]) ∧ Below W.heap.size W w') := Lib.hid (fun W h => by
            have := tree_any (k0 + 1) f A0 n0 c0 k0 15 W (Nat.lt_succ_self _) (by omega) hc0 (fErr_ops hc_2) (fErr_fld hc_2) (by omega) (by omega) (by omega) ((H0.out.below h).more h.size)
            rw [show k0 = f.length - 1 from by omega] at this ⊢
            exact this)
          have HT1 : Hid (∀ W, Below w.heap.size w W → Calls Try.prog 44 #[.slice A1 n1 c1, .int .i64 (k1 : Int), .int .i64 15] W fun e w' => e = .returned (.tuple #[.string (textB (treeAt g (g.length - 1))), .bool true]) ∧ Below W.heap.size W w') := Lib.hid (fun W h => by
            have := tree_any (k1 + 1) g A1 n1 c1 k1 15 W (Nat.lt_succ_self _) (by omega) hc1 (fErr_ops hc_3) (fErr_fld hc_3) (by omega) (by omega) (by omega) ((H1.out.below h).more h.size)
            rw [show k1 = g.length - 1 from by omega] at this ⊢
            exact this)
          have HTQ : Hid (∀ W A3 c3, Reads W W.heap.size 6 A3 (compF f).length (nds (compF f)) → (compF f).length ≤ c3 → Calls Try.prog 44 #[.slice A3 (compF f).length c3, .int .i64 (kq : Int), .int .i64 15] W fun e w' => e = .returned (.tuple #[.string (textB (treeAt f (f.length - 1))), .bool true]) ∧ Below W.heap.size W w') := Lib.hid (fun W A3 c3 hr hc => by
            have := tree_any (kq + 1) (compF f) A3 _ c3 kq 15 W (Nat.lt_succ_self _) (by omega) hc (fErr_ops hqok) (fErr_fld hqok) (by omega) (by omega) (by omega) hr
            rw [show kq = (compF f).length - 1 from by omega] at this ⊢
            rw [hqt] at this
            exact this)
          have HCP : Hid (∀ W, Below w.heap.size w W → Calls Try.prog 25 #[.slice A0 n0 c0] W fun e w' => ∃ A' c', e = .returned (.slice A' (compF f).length c') ∧ w'.ownsRow W.heap.size 44 6 (.slice A' (compF f).length c') (compF f).length (nds (compF f)) ∧ Below W.heap.size W w') := Lib.hid (fun W h => pCompact_own f A0 n0 c0 W ((H0.out.below h).more h.size) (by unfold maxLen; omega))
          have HCQ : Hid (∀ W A3 c3, Reads W W.heap.size 6 A3 (compF f).length (nds (compF f)) → Calls Try.prog 13 #[.slice A3 (compF f).length c3] W fun e w' => e = .returned (.int .i64 0) ∧ Below W.heap.size W w') := Lib.hid (fun W A3 c3 h => by
            have := rCheck_any (compF f) A3 _ c3 W h (by unfold maxLen; omega)
            rw [hqok] at this
            exact this)
          obtain ⟨bz, hbz⟩ : ∃ bz : Bool, bz = decide (textB (treeAt f (f.length - 1)) = textB (treeAt g (g.length - 1))) := ⟨_, rfl⟩
          have HSM : Hid (∀ W, Below w.heap.size w W → Calls Try.prog 34 #[.slice A0 n0 c0, .slice A1 n1 c1] W fun e w' => e = .returned (.bool bz) ∧ Below W.heap.size W w') := Lib.hid (fun W h => by
            have := pSame_any f g A0 A1 n0 n1 c0 c1 W ((H0.out.below h).more h.size) ((H1.out.below h).more h.size) (by unfold maxLen; omega) (by unfold maxLen; omega)
            have e : sameF f g = bz := by
              unfold sameF
              rw [hbz]
              refine decide_eq_decide.2 ?_
              rw [hteq, ← hceq]
              exact ⟨fun h => h.2.2, fun h => ⟨hc_2, hc_3, h⟩⟩
            rw [e] at this
            exact this)
          have HCM : Hid (∀ W, Below w.heap.size w W → Calls Try.prog 36 #[.slice A0 n0 c0, .slice A1 n1 c1] W fun e w' => e = .returned (.int .i64 (cmpF f g)) ∧ Below W.heap.size W w') := Lib.hid (fun W h => pCompare_any f g A0 A1 n0 n1 c0 c1 W ((H0.out.below h).more h.size) ((H1.out.below h).more h.size) (by unfold maxLen; omega) (by unfold maxLen; omega))
          have hcz : (cmpF f g == 0) = bz := by
            rw [hbz, Bool.eq_iff_iff, beq_iff_eq, decide_eq_true_eq, hteq, ← hceq]
            exact cmpF_zero f g
          have HQO := Lib.hid (fErr_ops hqok)
          have HQK := Lib.hid (fErr_known hqok)
          have HQU := Lib.hid hqu
          have HQN := Lib.hid hqn
          have wk0 : wrap64 ((n0 : Int) - 1) = (k0 : Int) := by unfold wrap64; omega
          have wk1 : wrap64 ((n1 : Int) - 1) = (k1 : Int) := by unfold wrap64; omega
          have wkq : wrap64 (((compF f).length : Int) - 1) = (kq : Int) := by unfold wrap64; omega
          have wk0' : (n0 : Int) - 1 = (k0 : Int) := by omega
          have wk1' : (n1 : Int) - 1 = (k1 : Int) := by omega
          have wkq' : ((compF f).length : Int) - 1 = (kq : Int) := by omega
          have hkqn : kq + 1 = (compF f).length := by omega
          clear hq hq2 hqok htr htr2 hasc hasc2 hteq hceq hqt hqu hqn hne0 hne1 hc_2 hc_3 hl0 hl1 hk0 hk1 hkq
          generalize textB (treeAt f (f.length - 1)) = tx at *
          generalize textB (treeAt g (g.length - 1)) = tz at *
          generalize cmpF f g = zc at *
          generalize compF f = q at *
          have hbb : (bz != bz) = false := by simp
          have hbt : (tx.toList == tz.toList) = bz := by
            rw [hbz, Bool.eq_iff_iff, decide_eq_true_eq]
            exact Lib.bytes_beq_iff _ _
          have hbx : (tx.toList == tx.toList) = true := by simp
          clear hbz
          have hmk := fun W => makeB W q.length (by omega)
          go_enter Try.func8, Try.ntmps8
          go_wp2_with fail
          refine (HAW.out _).mono ?_
          rintro e w1 ⟨rfl, hb⟩
          have HB := Lib.hid hb
          clear hb
          go_wp2_with fail
          refine (HC0.out _ HB.out).mono ?_
          rintro e wx ⟨rfl, hb⟩
          replace HB := Lib.hid (HB.out.trans (hb.mono HB.out.size))
          clear hb
          go_wp2_with fail
          refine (HC1.out _ HB.out).mono ?_
          rintro e wx ⟨rfl, hb⟩
          replace HB := Lib.hid (HB.out.trans (hb.mono HB.out.size))
          clear hb
          go_wp2_with fail
          refine (HCP.out _ HB.out).mono ?_
          rintro e w3 ⟨A3, c3, rfl, hO3, hb3⟩
          have hcap := own_cap hO3
          have HR3 := Lib.hid (Reads.of_own hO3)
          have HB3 := Lib.hid (HB.out.trans (hb3.mono HB.out.size))
          clear hO3 hb3
          go_wp2_with fail
          refine (HT0.out _ HB3.out).mono ?_
          rintro e w4 ⟨rfl, hb4⟩
          have HB4 := Lib.hid (HB3.out.trans (hb4.mono HB3.out.size))
          have HR4 := Lib.hid ((HR3.out.below hb4).more hb4.size)
          clear hb4
          go_wp2_with fail
          refine (HTQ.out _ _ _ HR4.out hcap).mono ?_
          rintro e w5 ⟨rfl, hb5⟩
          have HB5 := Lib.hid (HB4.out.trans (hb5.mono HB4.out.size))
          have HR5 := Lib.hid ((HR4.out.below hb5).more hb5.size)
          clear hb5
          go_wp2_with fail
          refine (HT1.out _ HB5.out).mono ?_
          rintro e w6 ⟨rfl, hb6⟩
          have HB6 := Lib.hid (HB5.out.trans (hb6.mono HB5.out.size))
          have HR6 := Lib.hid ((HR5.out.below hb6).more hb6.size)
          clear hb6
          go_wp2_with fail
          refine (HCQ.out _ _ _ HR6.out).mono ?_
          rintro e w7 ⟨rfl, hb7⟩
          have HB7 := Lib.hid (HB6.out.trans (hb7.mono HB6.out.size))
          have HR7 := Lib.hid ((HR6.out.below hb7).more hb7.size)
          clear hb7
          go_wp2_with fail
          refine (HSM.out _ HB7.out).mono ?_
          rintro e w8 ⟨rfl, hb8⟩
          have HB8 := Lib.hid (HB7.out.trans (hb8.mono HB7.out.size))
          have HR8 := Lib.hid ((HR7.out.below hb8).more hb8.size)
          clear hb8
          go_wp2_with fail
          refine (HCM.out _ HB8.out).mono ?_
          rintro e w9 ⟨rfl, hb9⟩
          have HB9 := Lib.hid (HB8.out.trans (hb9.mono HB8.out.size))
          have HR9 := Lib.hid ((HR8.out.below hb9).more hb9.size)
          clear hb9
          have HBS := Lib.hid (BS.made w9 q.length)
          have HBa : Hid (Below w9.heap.size w9 (w9.alloc (.cells (falses q.length) 4))) := Lib.hid ((Below.refl _ w9).alloc (Nat.le_refl _) _)
          have hga : w9.heap.size < (w9.alloc (.cells (falses q.length) 4)).heap.size := by simp
          have hfr := fun k => HBS.out.free k
          have hcl := HBS.out.cell (k := kq) (by simp; omega)
          go_wp2
          have HD0 : Hid (BS (w9.alloc (.cells ((falses q.length).setIfInBounds kq (.bool true)) 4)) w9.heap.size ((List.replicate q.length false).set kq true)) := Lib.hid (by
            have hh := heap_alloc_new w9 (.cells ((falses q.length).setIfInBounds kq (.bool true)) 4)
            unfold BS
            rw [hh]
            have e : ∀ L : List Bool, (bs (L.set kq true)).toArray = (bs L).toArray.setIfInBounds kq (.bool true) := by
              intro L
              unfold bs
              rw [List.map_set]
              simp
            have e2 : (bs (List.replicate q.length false)).toArray = falses q.length := by simp [bs, falses]
            rw [e, e2])
          have HM0 : Hid (Marked q ((List.replicate q.length false).set kq true) q.length) := Lib.hid (by
            refine ⟨by simp, ?_, fun j m hj hu => absurd hu.1 (by omega)⟩
            rw [getD_setB (by simp; omega), if_pos (by omega)])
          have HBb : Hid (Below w9.heap.size w9 (w9.alloc (.cells ((falses q.length).setIfInBounds kq (.bool true)) 4))) := Lib.hid ((Below.refl _ w9).alloc (Nat.le_refl _) _)
          have hgb : w9.heap.size < (w9.alloc (.cells ((falses q.length).setIfInBounds kq (.bool true)) 4)).heap.size := by simp
          clear hmk hfr hcl HBS HBa hga
          generalize (w9.alloc (.cells ((falses q.length).setIfInBounds kq (.bool true)) 4)) = wA at *
          generalize (List.replicate q.length false).set kq true = U0 at *
          generalize hG : w9.heap.size = G at *
          have HGG := Lib.hid hG
          clear hG
          go_loopw [13, 14] (fun i _ wr => ∃ (m : Nat) (U : List Bool), m ≤ q.length ∧ i = .int .i64 ((m : Int) - 1) ∧ Hid (BS wr G U) ∧ Hid (Marked q U m) ∧ Hid (Below G w9 wr) ∧ G < wr.heap.size) (fun i _ _ => (intOf i + 1).toNat)
          case atStart => exact ⟨q.length, U0, Nat.le_refl _, by rw [wkq'], HD0, HM0, HBb, hgb⟩
          case round =>
            obtain ⟨m, U, hm, rfl, HU, HM, HBr, hgr⟩ := hrel
            by_cases h0m : m = 0
            · subst h0m
              go_wp2
              go_ret
              have hb1 := HB9.out
              exact ⟨rfl, hb1.trans (HBr.out.mono (by have := hb1.size; rw [HGG.out] at this; exact this))⟩
            · obtain ⟨k, rfl⟩ : ∃ k, m = k + 1 := ⟨m - 1, by omega⟩
              have ei : (((k + 1 : Nat) : Int) - 1) = (k : Int) := by omega
              rw [ei]
              have hkl : k < q.length := by omega
              have HRr := Lib.hid (HR9.out.below HBr.out)
              go_wp2
              rename World => wo
              go_loopw [14, 119] (fun _ i wr => ∃ (j p : Nat), j ≤ k ∧ i = .int .i64 j ∧ Hid (wr = wo.drewN p)) (fun _ i _ => k - (intOf i).toNat)
              case atStart => exact ⟨0, 0, Nat.zero_le _, rfl, Lib.hid rfl⟩
              case round =>
                obtain ⟨j, p, hj, rfl, HW⟩ := hrel
                have hbw : Below G wo wr := by rw [HW.out]; exact below_drewN (Below.refl G wo) p
                by_cases hlt : j < k
                · obtain ⟨ad, rfl, hb, m0, m1, m2, m3, m4, m5⟩ := (HRr.out.below hbw).nd_at hkl
                  obtain ⟨ad2, he, hb2, q0, q1, q2, q3, q4, q5⟩ := (HRr.out.below hbw).nd_at (show j < q.length by omega)
                  injection he with he
                  subst he
                  have hne9 : q.getD k nd0 ≠ q.getD j nd0 := fun e => by
                    rw [List.getD_eq_getElem?_getD, List.getD_eq_getElem?_getD, List.getElem?_eq_getElem hkl, List.getElem?_eq_getElem (show j < q.length by omega)] at e
                    exact List.pairwise_iff_getElem.1 HQN.out j k (by omega) hkl hlt (by simpa using e.symm)
                  obtain ⟨x, hx⟩ : ∃ x, q.getD k nd0 = x := ⟨_, rfl⟩
                  obtain ⟨y, hy⟩ : ∃ y, q.getD j nd0 = y := ⟨_, rfl⟩
                  rw [hx] at m0 m1 m2 m3 m4 m5 hne9
                  rw [hy] at q0 q1 q2 q3 q4 q5 hne9
                  have l1 := add_cell m1
                  have l2 := add_cell m2
                  have l3 := add_cell m3
                  have l4 := add_cell m4
                  have l5 := add_cell m5
                  have r1 := add_cell q1
                  have r2 := add_cell q2
                  have r3 := add_cell q3
                  have r4 := add_cell q4
                  have r5 := add_cell q5
                  have hq9 : eqN x y = false := by unfold eqN; exact decide_eq_false hne9
                  have hE := eqRun x y
                  rw [hq9] at hE
                  have hjl : j < q.length := by omega
                  clear hx hy hne9
                  go_wp2
                  go_quiet (fail)
                  go_wp2
                  go_roundw
                  case rel => exact ⟨j + 1, _, by omega, by go_num, Lib.hid (by rw [HW.out, World.drewN_drewN])⟩
                  case measure => simp [intOf]; omega
                · obtain ⟨ad, rfl, hb, m0, m1, m2, m3, m4, m5⟩ := (HRr.out.below hbw).nd_at hkl
                  have HUw : Hid (BS wr G U) := Lib.hid (by rw [HW.out]; exact HU.out)
                  have hul := HM.out.1
                  have hUk : U.getD k false = true := by
                    by_cases e : k + 1 < q.length
                    · obtain ⟨j2, h1, h2⟩ := HQU.out k e
                      exact HM.out.2.2 j2 k (by omega) h2 hkl
                    · have := HM.out.2.1
                      rw [show q.length - 1 = k from by omega] at this
                      exact this
                  have huc := HUw.out.cell (k := k) (by omega)
                  rw [hUk] at huc
                  have ho := HQO.out k hkl
                  have hkn := HQK.out k hkl
                  have hus : ∀ t, uses q k t → (usesX (q.getD k nd0).op = true ∧ (q.getD k nd0).x = (t : Int)) ∨ (usesY (q.getD k nd0).op = true ∧ (q.getD k nd0).y = (t : Int)) := fun t h => h.2
                  obtain ⟨x, hx⟩ : ∃ x, q.getD k nd0 = x := ⟨_, rfl⟩
                  rw [hx] at m0 m1 m2 m3 m4 m5 ho hkn hus
                  have HUX := Lib.hid (fun W => rUsesX_any x.op hkn W)
                  have HUY := Lib.hid (fun W => rUsesY_any x.op hkn W)
                  have hfre := fun t => HUw.out.free t
                  have HUS := Lib.hid hus
                  have HXX := Lib.hid hx
                  have l4 := add_cell m4
                  have l5 := add_cell m5
                  have hbG : ¬ (ad.add (k * 6)).block = G := by rw [block_of_add]; omega
                  have HBw : Hid (Below G w9 wr) := Lib.hid (HBr.out.trans hbw)
                  have hgw : G < wr.heap.size := by have := hbw.size; omega
                  have hd9 : ¬ ((j : Int) < (k : Int)) := by omega
                  have HRw := Lib.hid (HRr.out.below hbw)
                  clear hx hus m1 m2 m3
                  cases hux : usesX x.op with
                  | false =>
                    have huy : usesY x.op = false := by cases h : usesY x.op with | false => rfl | true => have := usesY_X h; rw [hux] at this; cases this
                    rw [hux] at HUX
                    rw [huy] at HUY
                    have HM2 : Hid (Marked q U k) := Lib.hid (by
                      refine ⟨hul, HM.out.2.1, fun j2 t h1 h2 h3 => ?_⟩
                      by_cases e : j2 = k
                      · subst e
                        rcases HUS.out t h2 with h | h
                        · rw [hux] at h; exact absurd h.1 (by decide)
                        · rw [huy] at h; exact absurd h.1 (by decide)
                      · exact HM.out.2.2 j2 t (by omega) h2 h3)
                    go_wp2_with fail
                    refine (HUX.out _).mono ?_
                    rintro e wz ⟨rfl, rfl⟩
                    go_wp2_with fail
                    refine (HUY.out _).mono ?_
                    rintro e wz ⟨rfl, rfl⟩
                    go_wp2
                    go_roundw
                    case rel => exact ⟨k, U, by omega, by go_num, HUw, HM2, HBw, hgw⟩
                    case measure => simp [intOf]
                  | true =>
                    have hxx := opsOk_x ho hux
                    obtain ⟨kx, hkx⟩ : ∃ kx : Nat, x.x = (kx : Int) := ⟨x.x.toNat, by omega⟩
                    have hkxl : kx < q.length := by omega
                    have hcx := HUw.out.cell (k := kx) (by omega)
                    have hfx := hfre kx
                    rw [hkx] at m4 l4
                    rw [hux] at HUX
                    have HUx := Lib.hid (HUw.out.put kx true)
                    have HBx : Hid (Below G w9 (wr.setCell ⟨G, kx, none⟩ (.bool true))) := Lib.hid (HBw.out.setCell (Nat.le_refl _) _)
                    have hgx : G < (wr.setCell ⟨G, kx, none⟩ (.bool true)).heap.size := by simpa using hgw
                    have hulx : (U.set kx true).length = q.length := by rw [List.length_set]; exact hul
                    clear hfre
                    go_wp2_with fail
                    refine (HUX.out _).mono ?_
                    rintro e wz ⟨rfl, rfl⟩
                    obtain ⟨ad9, he9, _, x0, _, _, _, x4, x5⟩ := (HRr.out.below (hbw.setCell (show G ≤ (⟨G, kx, none⟩ : Addr).block from Nat.le_refl _) (.bool true))).nd_at hkl
                    injection he9 with he9
                    subst he9
                    rw [HXX.out] at x0 x4 x5
                    have y5 := add_cell x5
                    go_wp2_with fail
                    clear m0 m4 m5 l4 l5 hcx hfx huc
                    generalize wr.setCell ⟨G, kx, none⟩ (.bool true) = wX at *
                    cases huy : usesY x.op with
                    | false =>
                      rw [huy] at HUY
                      have HM2 : Hid (Marked q (U.set kx true) k) := Lib.hid (by
                        refine ⟨hulx, ?_, fun j2 t h1 h2 h3 => ?_⟩
                        · rw [getD_setB (by omega)]; split
                          · rfl
                          · exact HM.out.2.1
                        · rw [getD_setB (by omega)]
                          split
                          · rfl
                          · rename_i hne8
                            by_cases e : j2 = k
                            · subst e
                              rcases HUS.out t h2 with h | h
                              · exact absurd (by have := h.2; omega) hne8
                              · rw [huy] at h; exact absurd h.1 (by decide)
                            · exact HM.out.2.2 j2 t (by omega) h2 h3)
                      refine (HUY.out _).mono ?_
                      rintro e wz ⟨rfl, rfl⟩
                      go_wp2
                      go_roundw
                      case rel => exact ⟨k, _, by omega, by go_num, HUx, HM2, HBx, hgx⟩
                      case measure => simp [intOf]
                    | true =>
                      rw [huy] at HUY
                      have hyy := opsOk_y ho huy
                      obtain ⟨ky, hky⟩ : ∃ ky : Nat, x.y = (ky : Int) := ⟨x.y.toNat, by omega⟩
                      have hkyl : ky < q.length := by omega
                      have hcy := HUx.out.cell (k := ky) (by omega)
                      have hfy := HUx.out.free ky
                      rw [hky] at x5 y5
                      have HUy := Lib.hid (HUx.out.put ky true)
                      have HBy : Hid (Below G w9 (wX.setCell ⟨G, ky, none⟩ (.bool true))) := Lib.hid (HBx.out.setCell (Nat.le_refl _) _)
                      have hgy : G < (wX.setCell ⟨G, ky, none⟩ (.bool true)).heap.size := by simpa using hgx
                      have HM2 : Hid (Marked q ((U.set kx true).set ky true) k) := Lib.hid (by
                        have hold : ∀ t, U.getD t false = true → ((U.set kx true).set ky true).getD t false = true := fun t ht => by
                          rw [getD_setB (by omega)]
                          split
                          · rfl
                          · rw [getD_setB (by omega)]
                            split
                            · rfl
                            · exact ht
                        refine ⟨by rw [List.length_set]; exact hulx, hold _ HM.out.2.1, fun j2 t h1 h2 h3 => ?_⟩
                        by_cases e : j2 = k
                        · subst e
                          rcases HUS.out t h2 with h | h
                          · have e2 : kx = t := by have := h.2; omega
                            rw [getD_setB (by omega)]
                            split
                            · rfl
                            · rw [getD_setB (by omega), if_pos e2]
                          · have e2 : ky = t := by have := h.2; omega
                            rw [getD_setB (by omega), if_pos e2]
                        · exact hold t (HM.out.2.2 j2 t (by omega) h2 h3))
                      refine (HUY.out _).mono ?_
                      rintro e wz ⟨rfl, rfl⟩
                      go_wp2
                      go_roundw
                      case rel => exact ⟨k, _, by omega, by go_num, HUy, HM2, HBy, hgy⟩
                      case measure => simp [intOf]
        · have hzb : (fErr g != 0) = true := by simpa using hc_3
          generalize fErr g = z at *
          clear hc_3 hl0 hl1
          go_enter Try.func8, Try.ntmps8
          go_wp2_with fail
          refine (HAW.out _).mono ?_
          rintro e w1 ⟨rfl, hb⟩
          have HB := Lib.hid hb
          clear hb
          go_wp2_with fail
          refine (HC0.out _ HB.out).mono ?_
          rintro e wx ⟨rfl, hb⟩
          replace HB := Lib.hid (HB.out.trans (hb.mono HB.out.size))
          clear hb
          go_wp2_with fail
          refine (HC1.out _ HB.out).mono ?_
          rintro e wx ⟨rfl, hb⟩
          replace HB := Lib.hid (HB.out.trans (hb.mono HB.out.size))
          clear hb
          go_wp2_with fail
          refine (HAW.out _).mono ?_
          rintro e wx ⟨rfl, hb⟩
          replace HB := Lib.hid (HB.out.trans (hb.mono HB.out.size))
          clear hb
          go_wp2
          go_ret
          exact ⟨rfl, HB.out⟩
      · have hzb : (fErr f != 0) = true := by simpa using hc_2
        generalize fErr f = z at *
        clear hc_2 hl0 hl1
        go_enter Try.func8, Try.ntmps8
        go_wp2_with fail
        refine (HAW.out _).mono ?_
        rintro e w1 ⟨rfl, hb⟩
        have HB := Lib.hid hb
        clear hb
        go_wp2_with fail
        refine (HC0.out _ HB.out).mono ?_
        rintro e wx ⟨rfl, hb⟩
        replace HB := Lib.hid (HB.out.trans (hb.mono HB.out.size))
        clear hb
        go_wp2_with fail
        refine (HAW.out _).mono ?_
        rintro e wx ⟨rfl, hb⟩
        replace HB := Lib.hid (HB.out.trans (hb.mono HB.out.size))
        clear hb
        go_wp2
        go_ret
        exact ⟨rfl, HB.out⟩
    · have d1a : decide (14 < (n1 : Int)) = true := decide_eq_true (by omega)
      have d1b : decide (14 < n1) = true := decide_eq_true (by omega)
      clear hl0 hl1
      go_enter Try.func8, Try.ntmps8
      go_wp2_with fail
      refine (HAW.out _).mono ?_
      rintro e w1 ⟨rfl, hb⟩
      have HB := Lib.hid hb
      clear hb
      go_wp2_with fail
      refine (HAW.out _).mono ?_
      rintro e wx ⟨rfl, hb⟩
      replace HB := Lib.hid (HB.out.trans (hb.mono HB.out.size))
      clear hb
      go_wp2
      go_ret
      exact ⟨rfl, HB.out⟩
  · have d0a : decide (14 < (n0 : Int)) = true := decide_eq_true (by omega)
    have d0b : decide (14 < n0) = true := decide_eq_true (by omega)
    clear hl0 hl1
    go_enter Try.func8, Try.ntmps8
    go_wp2_with fail
    refine (HAW.out _).mono ?_
    rintro e w1 ⟨rfl, hb⟩
    have HB := Lib.hid hb
    clear hb
    go_wp2_with fail
    refine (HAW.out _).mono ?_
    rintro e wx ⟨rfl, hb⟩
    replace HB := Lib.hid (HB.out.trans (hb.mono HB.out.size))
    clear hb
    go_wp2
    go_ret
    exact ⟨rfl, HB.out⟩
set_option maxRecDepth 100000 in
theorem contract (H : Type) (enc : TypeId × Value → H) (W : World) (base : Nat) (args : Array Value) (ds gs : List (DataW H)) (before : List MemPlace)
    (hval : ∀ (j : Nat) t v, Try.f8.params[j]? = some t → args[j]? = some v → Value.okWide Try.prog W .any base t v)
    (hW : DataW.Whole enc Try.prog Try.f8.params.toList Rows.formulaTreesSpec.vars false W args.toList ds gs before) :
    Calls Try.prog 8 args W fun e W' => ∃ v, e = .returned v ∧ Rows.formulaTreesSpec.post enc Try.prog Try.f8 false true false false W args v W' := by
  have hW' := hW
  obtain ⟨p, q, hA0, hV, rfl, hfz, hnd⟩ := hW
  have hA : DataW.TrodAll enc Try.prog W 0 (fun _ => true) true Try.f8.params.toList args.toList ds p := hA0
  rw [Try.params8] at hA hval
  obtain ⟨v0, vs0, d0, ds0, p0, q0, hargs, rfl, rfl, h0, r0⟩ := trodAll_cons hA
  obtain ⟨v1, vs1, d1, ds1, p1, q1, rfl, rfl, rfl, h1, r1⟩ := trodAll_cons r0
  obtain ⟨rfl, rfl, rfl⟩ := trodAll_nil r1
  obtain rfl : args = #[v0, v1] := by cases args; simp_all
  obtain ⟨rfl, rfl⟩ := trodVars_none hV
  obtain ⟨A0, n0, c0, rfl⟩ := okWide_slice Try.underlying22 (hval 0 22 v0 rfl rfl)
  obtain ⟨z0, w0⟩ : ∃ l, NdRow W A0 n0 c0 l := by
    obtain ⟨fuel, hf⟩ := h0
    exact open_nodes hf
  have k0 := h0
  have lt0 : ∀ x ∈ p0, x.block < W.heap.size := by obtain ⟨m, hm⟩ := k0; exact DataW.trod_lt m _ _ _ hm
  obtain ⟨A1, n1, c1, rfl⟩ := okWide_slice Try.underlying22 (hval 1 22 v1 rfl rfl)
  obtain ⟨z1, w1⟩ : ∃ l, NdRow W A1 n1 c1 l := by
    obtain ⟨fuel, hf⟩ := h1
    exact open_nodes hf
  have k1 := h1
  have lt1 : ∀ x ∈ p1, x.block < W.heap.size := by obtain ⟨m, hm⟩ := k1; exact DataW.trod_lt m _ _ _ hm
  clear hA0
  have hwalk : Calls Try.prog 8 #[.slice A0 n0 c0, .slice A1 n1 c1] W fun e w' => e = .returned (.bool true) ∧ Below W.heap.size W w' := walk z0 z1 A0 A1 n0 n1 c0 c1 W w0 w1
  refine hwalk.mono fun e W' ⟨he, hg⟩ => ?_
  subst he
  exact ⟨_, rfl, _, _, _, [], _, [], hW', trodAll_mk1 (shut_bool Try.underlying4 _), (trodAll_cons_mk (Below.trod laidOut (by kernel_rfl) (of_decide_eq_true (by kernel_rfl)) k0 hg lt0) (trodAll_cons_mk (Below.trod laidOut (by kernel_rfl) (of_decide_eq_true (by kernel_rfl)) k1 hg lt1) trodAll_mk0)), rfl, hg.frame _, fun h => by cases h⟩
theorem reads (os : Os) {H : Type} (enc : TypeId × Value → H) : ∃ places, DataW.whole enc Try.prog ((laidW os).forCall (fun _ _ => 0) ⟨#[], #[.slice none 0 0, .slice none 0 0], []⟩).memory Try.f8.params.toList Rows.formulaTreesSpec.vars false #[Value.slice none 0 0, Value.slice none 0 0].toList 8 = some ([.nil, .nil], [], places) :=
  ⟨[], by kernel_rfl⟩
set_option maxRecDepth 100000 in
theorem lifted (os : Os) (started : os.Started) (H : Type) (enc : TypeId × Value → H) (F : Stop.Interp) :
    ReturnsInHanded {} Try.checked os 8 .any ((OpenSpec.ofChange Rows.formulaTreesSpec).preRow enc Try.prog Try.f8 Rows.formulaTreesRow.domain false Rows.formulaTreesRow.laid) (((OpenSpec.ofChange Rows.formulaTreesSpec).at F).post enc Try.prog Try.f8 false true false false) := by
  obtain ⟨places, hx⟩ := reads os enc
  refine returnsInHanded_of_row (C := Try.checked) (s := OpenSpec.ofChange Rows.formulaTreesSpec) own started (by kernel_rfl) Try.func8
    (witness_row_at (enc := enc) (C := Try.checked) false (laidW os) #[.slice none 0 0, .slice none 0 0] (laidW_os os) (vars_ok os _) (heap_ok os _) (by kernel_rfl)
      (OpenSpec.preRow_of_cond 8 hx (by kernel_rfl) (fun k hk => by cases hk) (by kernel_rfl) (laid_met os _))) ?_
  intro W base args ds gs before hval hW _ _ _ _ _ _
  exact contract H enc W base args ds gs before hval hW
theorem said : Rows.FormulaTreesSaid :=
  OpenClaim.holds_of_cond 8 Try.f8 rfl rfl rfl rfl rfl rfl rfl ⟨rfl, rfl, rfl, rfl, rfl⟩ rfl rfl rfl rfl rfl (by kernel_rfl) Try.func8 (by kernel_rfl)
    (of_decide_eq_true (by kernel_rfl)) (by unfold Func.isWrapper; first | (rw [if_pos (by decide +kernel)]; kernel_rfl) | (rw [if_neg (by decide +kernel)]; exact ⟨rfl, rfl⟩))
    (fun os started H enc _ F => by rw [OpenClaim.pre_eq_preRow]; exact lifted os started H enc F)
#print axioms said
end Go.Proofs.Ytcbmncafmofcpaa.formulaTrees
