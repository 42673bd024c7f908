/- Layer 8: simpleBool and simpleIff of the reference. -/
import Derived.Test.YtkkkomkljpolbaaDoorGzb
namespace Go.Proofs.YtkkkomkljpolbaaDoor
open Go.RowKit Go.Proofs.Ws Go.Maps
set_option maxRecDepth 100000
set_option maxHeartbeats 8000000 in
theorem rIff8_any (s t : Tr) (hs : AllOk s) (ht : AllOk t) (ls : (canT s).length ≤ 199) (lt : (canT t).length ≤ 199) (A B : Option Addr) (ca cb : Nat) (w : World) (hA : w.ownsRow 0 62 6 (.slice A (canT s).length ca) (canT s).length (nds (canT s))) (hB : w.ownsRow 0 62 6 (.slice B (canT t).length cb) (canT t).length (nds (canT t))) :
    Calls Tryd.prog 129 #[.slice A (canT s).length ca, .slice B (canT t).length cb, .bool (decide (s = t)), .bool (decide (oppT s t))] w fun e w' => ∃ A' c', e = .returned (.slice A' (oL (sBoolO 8 s t)).length c') ∧ w'.ownsRow 0 62 6 (.slice A' (oL (sBoolO 8 s t)).length c') (oL (sBoolO 8 s t)).length (nds (oL (sBoolO 8 s t))) ∧ Below w.heap.size w w' := by
  have HA := Lib.hid hA
  have HB := Lib.hid hB
  clear hA hB
  by_cases hsame : s = t
  · have HR : Hid (oL (sBoolO 8 s t) = canT (cT 1)) := Lib.hid (by subst hsame; simp [sBoolO, oL])
    rw [HR.out]
    have HK := Lib.hid (fun (W : World) (_ : Below w.heap.size w W) => rTrue_own8 W)
    rw [decide_eq_true hsame]
    generalize decide (oppT s t) = bo at *
    have HT1 := Lib.hid (top_any (canT s) A (canT s).length ca w (Reads.of_own HA.out) (canT_ne s) (by unfold maxLen; omega))
    rw [topF_can hs] at HT1
    have HT2 := Lib.hid (top_any (canT t) B (canT t).length cb w (Reads.of_own HB.out) (canT_ne t) (by unfold maxLen; omega))
    rw [topF_can ht] at HT2
    clear HR hsame hs ht
    generalize topT s = ts at *
    generalize topT t = tt at *
    generalize canT (cT 1) = ns at *
    generalize canT s = la at *
    generalize canT t = lb at *
    have HBZ : Hid (Below w.heap.size w w) := Lib.hid (Below.refl _ _)
    go_enter Tryd.func129, Tryd.ntmps129
    go_wp2_with fail
    refine (HK.out w HBZ.out).mono ?_
    rintro r wz ⟨A', c', rfl, ho, hb⟩
    have HO := Lib.hid ho
    have HBz := Lib.hid (HBZ.out.trans (hb.mono HBZ.out.size))
    clear ho hb
    go_wp2
    go_ret
    exact ⟨A', c', rfl, HO.out, HBz.out⟩
  · by_cases hopp : oppT s t
    · have HR : Hid (oL (sBoolO 8 s t) = canT (cT 2)) := Lib.hid (by simp [sBoolO, oL, hsame, hopp])
      rw [HR.out]
      have HK := Lib.hid (fun (W : World) (_ : Below w.heap.size w W) => rFalse_own8 W)
      rw [decide_eq_false hsame]
      rw [decide_eq_true hopp]
      have HT1 := Lib.hid (top_any (canT s) A (canT s).length ca w (Reads.of_own HA.out) (canT_ne s) (by unfold maxLen; omega))
      rw [topF_can hs] at HT1
      have HT2 := Lib.hid (top_any (canT t) B (canT t).length cb w (Reads.of_own HB.out) (canT_ne t) (by unfold maxLen; omega))
      rw [topF_can ht] at HT2
      clear HR hsame hopp hs ht
      generalize topT s = ts at *
      generalize topT t = tt at *
      generalize canT (cT 2) = ns at *
      generalize canT s = la at *
      generalize canT t = lb at *
      have HBZ : Hid (Below w.heap.size w w) := Lib.hid (Below.refl _ _)
      go_enter Tryd.func129, Tryd.ntmps129
      go_wp2_with fail
      refine (HK.out w HBZ.out).mono ?_
      rintro r wz ⟨A', c', rfl, ho, hb⟩
      have HO := Lib.hid ho
      have HBz := Lib.hid (HBZ.out.trans (hb.mono HBZ.out.size))
      clear ho hb
      go_wp2
      go_ret
      exact ⟨A', c', rfl, HO.out, HBz.out⟩
    · by_cases hs1 : topT s = 1
      · have HR : Hid (oL (sBoolO 8 s t) = canT t) := Lib.hid (by simp [sBoolO, oL, hsame, hopp, hs1])
        rw [HR.out]
        rw [decide_eq_false hsame]
        rw [decide_eq_false hopp]
        have es1 : (topT s == 1) = true := by simpa using hs1
        have HT1 := Lib.hid (top_any (canT s) A (canT s).length ca w (Reads.of_own HA.out) (canT_ne s) (by unfold maxLen; omega))
        rw [topF_can hs] at HT1
        have HT2 := Lib.hid (top_any (canT t) B (canT t).length cb w (Reads.of_own HB.out) (canT_ne t) (by unfold maxLen; omega))
        rw [topF_can ht] at HT2
        clear HR hsame hopp hs1 hs ht
        generalize topT s = ts at *
        generalize topT t = tt at *
        generalize canT s = la at *
        generalize canT t = lb at *
        have HBZ : Hid (Below w.heap.size w w) := Lib.hid (Below.refl _ _)
        go_enter Tryd.func129, Tryd.ntmps129
        go_wp2_with fail
        refine (HT1.out).mono ?_
        rintro r w1 ⟨rfl, rfl⟩
        go_wp2
        go_ret
        exact ⟨B, cb, rfl, own_keep1 HB.out (fun g hg => HBZ.out.block g (HB.out.lt g hg).2), HBZ.out⟩
      · by_cases ht1 : topT t = 1
        · have HR : Hid (oL (sBoolO 8 s t) = canT s) := Lib.hid (by simp [sBoolO, oL, hsame, hopp, hs1, ht1])
          rw [HR.out]
          rw [decide_eq_false hsame]
          rw [decide_eq_false hopp]
          have es1 : (topT s == 1) = false := by simpa using hs1
          have et1 : (topT t == 1) = true := by simpa using ht1
          have HT1 := Lib.hid (top_any (canT s) A (canT s).length ca w (Reads.of_own HA.out) (canT_ne s) (by unfold maxLen; omega))
          rw [topF_can hs] at HT1
          have HT2 := Lib.hid (top_any (canT t) B (canT t).length cb w (Reads.of_own HB.out) (canT_ne t) (by unfold maxLen; omega))
          rw [topF_can ht] at HT2
          clear HR hsame hopp hs1 ht1 hs ht
          generalize topT s = ts at *
          generalize topT t = tt at *
          generalize canT s = la at *
          generalize canT t = lb at *
          have HBZ : Hid (Below w.heap.size w w) := Lib.hid (Below.refl _ _)
          go_enter Tryd.func129, Tryd.ntmps129
          go_wp2_with fail
          refine (HT1.out).mono ?_
          rintro r w1 ⟨rfl, rfl⟩
          go_wp2_with fail
          refine (HT2.out).mono ?_
          rintro r w1 ⟨rfl, rfl⟩
          go_wp2
          go_ret
          exact ⟨A, ca, rfl, own_keep1 HA.out (fun g hg => HBZ.out.block g (HA.out.lt g hg).2), HBZ.out⟩
        · by_cases hs2 : topT s = 2
          · have HR : Hid (oL (sBoolO 8 s t) = canT (negT t)) := Lib.hid (by simp [sBoolO, oL, hsame, hopp, ht1, hs2])
            rw [HR.out]
            have HK := Lib.hid (fun (W : World) (h : Below w.heap.size w W) => rOpp_any (canT t) B (canT t).length cb W (Reads.of_own (own_keep1 HB.out (fun g hg => h.block g (HB.out.lt g hg).2))) (by unfold maxLen; omega))
            rw [neg_can8 ht lt] at HK
            rw [decide_eq_false hsame]
            rw [decide_eq_false hopp]
            have es1 : (topT s == 1) = false := by simpa using hs1
            have et1 : (topT t == 1) = false := by simpa using ht1
            have es2 : (topT s == 2) = true := by simpa using hs2
            have HT1 := Lib.hid (top_any (canT s) A (canT s).length ca w (Reads.of_own HA.out) (canT_ne s) (by unfold maxLen; omega))
            rw [topF_can hs] at HT1
            have HT2 := Lib.hid (top_any (canT t) B (canT t).length cb w (Reads.of_own HB.out) (canT_ne t) (by unfold maxLen; omega))
            rw [topF_can ht] at HT2
            clear HR hsame hopp hs1 ht1 hs2 hs ht
            generalize topT s = ts at *
            generalize topT t = tt at *
            generalize canT (negT t) = ns at *
            generalize canT s = la at *
            generalize canT t = lb at *
            have HBZ : Hid (Below w.heap.size w w) := Lib.hid (Below.refl _ _)
            go_enter Tryd.func129, Tryd.ntmps129
            go_wp2_with fail
            refine (HT1.out).mono ?_
            rintro r w1 ⟨rfl, rfl⟩
            go_wp2_with fail
            refine (HT2.out).mono ?_
            rintro r w1 ⟨rfl, rfl⟩
            go_wp2_with fail
            refine (HT1.out).mono ?_
            rintro r w1 ⟨rfl, rfl⟩
            go_wp2_with fail
            refine (HK.out w HBZ.out).mono ?_
            rintro r wz ⟨A', c', rfl, ho, hb⟩
            have HO := Lib.hid ho
            have HBz := Lib.hid (HBZ.out.trans (hb.mono HBZ.out.size))
            clear ho hb
            go_wp2
            go_ret
            exact ⟨A', c', rfl, HO.out, HBz.out⟩
          · by_cases ht2 : topT t = 2
            · have HR : Hid (oL (sBoolO 8 s t) = canT (negT s)) := Lib.hid (by simp [sBoolO, oL, hsame, hopp, hs1, hs2, ht2])
              rw [HR.out]
              have HK := Lib.hid (fun (W : World) (h : Below w.heap.size w W) => rOpp_any (canT s) A (canT s).length ca W (Reads.of_own (own_keep1 HA.out (fun g hg => h.block g (HA.out.lt g hg).2))) (by unfold maxLen; omega))
              rw [neg_can8 hs ls] at HK
              rw [decide_eq_false hsame]
              rw [decide_eq_false hopp]
              have es1 : (topT s == 1) = false := by simpa using hs1
              have et1 : (topT t == 1) = false := by simpa using ht1
              have es2 : (topT s == 2) = false := by simpa using hs2
              have et2 : (topT t == 2) = true := by simpa using ht2
              have HT1 := Lib.hid (top_any (canT s) A (canT s).length ca w (Reads.of_own HA.out) (canT_ne s) (by unfold maxLen; omega))
              rw [topF_can hs] at HT1
              have HT2 := Lib.hid (top_any (canT t) B (canT t).length cb w (Reads.of_own HB.out) (canT_ne t) (by unfold maxLen; omega))
              rw [topF_can ht] at HT2
              clear HR hsame hopp hs1 ht1 hs2 ht2 hs ht
              generalize topT s = ts at *
              generalize topT t = tt at *
              generalize canT (negT s) = ns at *
              generalize canT s = la at *
              generalize canT t = lb at *
              have HBZ : Hid (Below w.heap.size w w) := Lib.hid (Below.refl _ _)
              go_enter Tryd.func129, Tryd.ntmps129
              go_wp2_with fail
              refine (HT1.out).mono ?_
              rintro r w1 ⟨rfl, rfl⟩
              go_wp2_with fail
              refine (HT2.out).mono ?_
              rintro r w1 ⟨rfl, rfl⟩
              go_wp2_with fail
              refine (HT1.out).mono ?_
              rintro r w1 ⟨rfl, rfl⟩
              go_wp2_with fail
              refine (HT2.out).mono ?_
              rintro r w1 ⟨rfl, rfl⟩
              go_wp2_with fail
              refine (HK.out w HBZ.out).mono ?_
              rintro r wz ⟨A', c', rfl, ho, hb⟩
              have HO := Lib.hid ho
              have HBz := Lib.hid (HBZ.out.trans (hb.mono HBZ.out.size))
              clear ho hb
              go_wp2
              go_ret
              exact ⟨A', c', rfl, HO.out, HBz.out⟩
            · have HR : Hid (oL (sBoolO 8 s t) = []) := Lib.hid (by simp [sBoolO, oL, hsame, hopp, hs1, ht1, hs2, ht2])
              rw [HR.out]
              rw [decide_eq_false hsame]
              rw [decide_eq_false hopp]
              have es1 : (topT s == 1) = false := by simpa using hs1
              have et1 : (topT t == 1) = false := by simpa using ht1
              have es2 : (topT s == 2) = false := by simpa using hs2
              have et2 : (topT t == 2) = false := by simpa using ht2
              have HT1 := Lib.hid (top_any (canT s) A (canT s).length ca w (Reads.of_own HA.out) (canT_ne s) (by unfold maxLen; omega))
              rw [topF_can hs] at HT1
              have HT2 := Lib.hid (top_any (canT t) B (canT t).length cb w (Reads.of_own HB.out) (canT_ne t) (by unfold maxLen; omega))
              rw [topF_can ht] at HT2
              clear HR hsame hopp hs1 ht1 hs2 ht2 hs ht
              generalize topT s = ts at *
              generalize topT t = tt at *
              generalize canT s = la at *
              generalize canT t = lb at *
              have HBZ : Hid (Below w.heap.size w w) := Lib.hid (Below.refl _ _)
              go_enter Tryd.func129, Tryd.ntmps129
              go_wp2_with fail
              refine (HT1.out).mono ?_
              rintro r w1 ⟨rfl, rfl⟩
              go_wp2_with fail
              refine (HT2.out).mono ?_
              rintro r w1 ⟨rfl, rfl⟩
              go_wp2_with fail
              refine (HT1.out).mono ?_
              rintro r w1 ⟨rfl, rfl⟩
              go_wp2_with fail
              refine (HT2.out).mono ?_
              rintro r w1 ⟨rfl, rfl⟩
              go_wp2
              go_ret
              exact ⟨none, 0, rfl, World.ownsRow_nil _ _ _ _, HBZ.out⟩
set_option maxHeartbeats 8000000 in
theorem sBool5_any (s t : Tr) (hs : AllOk s) (ht : AllOk t) (ls : (canT s).length ≤ 199) (lt : (canT t).length ≤ 199) (A B : Option Addr) (ca cb : Nat) (w : World) (hA : w.ownsRow 0 62 6 (.slice A (canT s).length ca) (canT s).length (nds (canT s))) (hB : w.ownsRow 0 62 6 (.slice B (canT t).length cb) (canT t).length (nds (canT t))) :
    Calls Tryd.prog 64 #[.int .i64 5, .slice A (canT s).length ca, .slice B (canT t).length cb] w fun e w' => ∃ A' c', e = .returned (.slice A' (oL (sBoolO 5 s t)).length c') ∧ w'.ownsRow 0 62 6 (.slice A' (oL (sBoolO 5 s t)).length c') (oL (sBoolO 5 s t)).length (nds (oL (sBoolO 5 s t))) ∧ Below w.heap.size w w' := by
  have HA := Lib.hid hA
  have HB := Lib.hid hB
  clear hA hB
  by_cases hs2 : topT s = 2
  · have HR : Hid (oL (sBoolO 5 s t) = canT (cT 2)) := Lib.hid (by simp [sBoolO, oL, hs2])
    rw [HR.out]
    have HK := Lib.hid (fun (W : World) (_ : Below w.heap.size w W) => rFalse_own8 W)
    have es2 : (topT s == 2) = true := by simpa using hs2
    have fs2 : (topT s != 2) = false := by simpa using hs2
    have HT1 := Lib.hid (top_any (canT s) A (canT s).length ca w (Reads.of_own HA.out) (canT_ne s) (by unfold maxLen; omega))
    rw [topF_can hs] at HT1
    have HT2 := Lib.hid (top_any (canT t) B (canT t).length cb w (Reads.of_own HB.out) (canT_ne t) (by unfold maxLen; omega))
    rw [topF_can ht] at HT2
    have CE := Lib.hid (rSame_any (canT s) (canT t) A B (canT s).length (canT t).length ca cb w (Reads.of_own HA.out) (Reads.of_own HB.out) (by unfold maxLen; omega) (by unfold maxLen; omega))
    rw [same_can8 hs ht (by omega) (by omega)] at CE
    have CO := Lib.hid (fun (W : World) (h : Below w.heap.size w W) => rOpposed_any s t hs ht ls lt A B ca cb W (((Reads.of_own HA.out).below h).more h.size) (((Reads.of_own HB.out).below h).more h.size))
    clear HR hs2 hs ht
    generalize decide (s = t) = bs at *
    generalize decide (oppT s t) = bo at *
    generalize topT s = ts at *
    generalize topT t = tt at *
    generalize canT (cT 2) = ns at *
    generalize canT s = la at *
    generalize canT t = lb at *
    go_enter Tryd.func64, Tryd.ntmps64
    go_wp2_with fail
    refine (HT1.out).mono ?_
    rintro r w1 ⟨rfl, rfl⟩
    go_wp2_with fail
    refine (HT2.out).mono ?_
    rintro r w1 ⟨rfl, rfl⟩
    go_wp2_with fail
    refine (CE.out).mono ?_
    rintro r w1 ⟨rfl, hb1⟩
    have HB1 := Lib.hid hb1
    clear hb1
    go_wp2_with fail
    refine (CO.out w1 HB1.out).mono ?_
    rintro r w2 ⟨rfl, hb2⟩
    have HB2 := Lib.hid (HB1.out.trans (hb2.mono HB1.out.size))
    clear hb2
    go_wp2_with fail
    refine (HK.out w2 HB2.out).mono ?_
    rintro r wz ⟨A', c', rfl, ho, hb⟩
    have HO := Lib.hid ho
    have HBz := Lib.hid (HB2.out.trans (hb.mono HB2.out.size))
    clear ho hb
    go_wp2
    go_ret
    exact ⟨A', c', rfl, HO.out, HBz.out⟩
  · by_cases ht2 : topT t = 2
    · have HR : Hid (oL (sBoolO 5 s t) = canT (cT 2)) := Lib.hid (by simp [sBoolO, oL, hs2, ht2])
      rw [HR.out]
      have HK := Lib.hid (fun (W : World) (_ : Below w.heap.size w W) => rFalse_own8 W)
      have es2 : (topT s == 2) = false := by simpa using hs2
      have fs2 : (topT s != 2) = true := by simpa using hs2
      have et2 : (topT t == 2) = true := by simpa using ht2
      have ft2 : (topT t != 2) = false := by simpa using ht2
      have HT1 := Lib.hid (top_any (canT s) A (canT s).length ca w (Reads.of_own HA.out) (canT_ne s) (by unfold maxLen; omega))
      rw [topF_can hs] at HT1
      have HT2 := Lib.hid (top_any (canT t) B (canT t).length cb w (Reads.of_own HB.out) (canT_ne t) (by unfold maxLen; omega))
      rw [topF_can ht] at HT2
      have CE := Lib.hid (rSame_any (canT s) (canT t) A B (canT s).length (canT t).length ca cb w (Reads.of_own HA.out) (Reads.of_own HB.out) (by unfold maxLen; omega) (by unfold maxLen; omega))
      rw [same_can8 hs ht (by omega) (by omega)] at CE
      have CO := Lib.hid (fun (W : World) (h : Below w.heap.size w W) => rOpposed_any s t hs ht ls lt A B ca cb W (((Reads.of_own HA.out).below h).more h.size) (((Reads.of_own HB.out).below h).more h.size))
      clear HR hs2 ht2 hs ht
      generalize decide (s = t) = bs at *
      generalize decide (oppT s t) = bo at *
      generalize topT s = ts at *
      generalize topT t = tt at *
      generalize canT (cT 2) = ns at *
      generalize canT s = la at *
      generalize canT t = lb at *
      go_enter Tryd.func64, Tryd.ntmps64
      go_wp2_with fail
      refine (HT1.out).mono ?_
      rintro r w1 ⟨rfl, rfl⟩
      go_wp2_with fail
      refine (HT2.out).mono ?_
      rintro r w1 ⟨rfl, rfl⟩
      go_wp2_with fail
      refine (CE.out).mono ?_
      rintro r w1 ⟨rfl, hb1⟩
      have HB1 := Lib.hid hb1
      clear hb1
      go_wp2_with fail
      refine (CO.out w1 HB1.out).mono ?_
      rintro r w2 ⟨rfl, hb2⟩
      have HB2 := Lib.hid (HB1.out.trans (hb2.mono HB1.out.size))
      clear hb2
      go_wp2_with fail
      refine (HK.out w2 HB2.out).mono ?_
      rintro r wz ⟨A', c', rfl, ho, hb⟩
      have HO := Lib.hid ho
      have HBz := Lib.hid (HB2.out.trans (hb.mono HB2.out.size))
      clear ho hb
      go_wp2
      go_ret
      exact ⟨A', c', rfl, HO.out, HBz.out⟩
    · by_cases hopp : oppT s t
      · by_cases hs1 : topT s = 1
        · have HR : Hid (oL (sBoolO 5 s t) = canT t) := Lib.hid (by simp [sBoolO, oL, hs1, ht2, hopp])
          rw [HR.out]
          have es2 : (topT s == 2) = false := by simpa using hs2
          have fs2 : (topT s != 2) = true := by simpa using hs2
          have es1 : (topT s == 1) = true := by simpa using hs1
          have fs1 : (topT s != 1) = false := by simpa using hs1
          have et2 : (topT t == 2) = false := by simpa using ht2
          have ft2 : (topT t != 2) = true := by simpa using ht2
          have HT1 := Lib.hid (top_any (canT s) A (canT s).length ca w (Reads.of_own HA.out) (canT_ne s) (by unfold maxLen; omega))
          rw [topF_can hs] at HT1
          have HT2 := Lib.hid (top_any (canT t) B (canT t).length cb w (Reads.of_own HB.out) (canT_ne t) (by unfold maxLen; omega))
          rw [topF_can ht] at HT2
          have CE := Lib.hid (rSame_any (canT s) (canT t) A B (canT s).length (canT t).length ca cb w (Reads.of_own HA.out) (Reads.of_own HB.out) (by unfold maxLen; omega) (by unfold maxLen; omega))
          rw [same_can8 hs ht (by omega) (by omega)] at CE
          have CO := Lib.hid (fun (W : World) (h : Below w.heap.size w W) => rOpposed_any s t hs ht ls lt A B ca cb W (((Reads.of_own HA.out).below h).more h.size) (((Reads.of_own HB.out).below h).more h.size))
          rw [decide_eq_true hopp] at CO
          clear HR hs2 hs1 ht2 hopp hs ht
          generalize decide (s = t) = bs at *
          generalize decide (oppT s t) = bo at *
          generalize topT s = ts at *
          generalize topT t = tt at *
          generalize canT s = la at *
          generalize canT t = lb at *
          go_enter Tryd.func64, Tryd.ntmps64
          go_wp2_with fail
          refine (HT1.out).mono ?_
          rintro r w1 ⟨rfl, rfl⟩
          go_wp2_with fail
          refine (HT2.out).mono ?_
          rintro r w1 ⟨rfl, rfl⟩
          go_wp2_with fail
          refine (CE.out).mono ?_
          rintro r w1 ⟨rfl, hb1⟩
          have HB1 := Lib.hid hb1
          clear hb1
          go_wp2_with fail
          refine (CO.out w1 HB1.out).mono ?_
          rintro r w2 ⟨rfl, hb2⟩
          have HB2 := Lib.hid (HB1.out.trans (hb2.mono HB1.out.size))
          clear hb2
          go_wp2
          go_ret
          exact ⟨B, cb, rfl, own_keep1 HB.out (fun g hg => HB2.out.block g (HB.out.lt g hg).2), HB2.out⟩
        · by_cases ht1 : topT t = 1
          · have HR : Hid (oL (sBoolO 5 s t) = canT s) := Lib.hid (by simp [sBoolO, oL, hs2, hs1, ht1, hopp])
            rw [HR.out]
            have es2 : (topT s == 2) = false := by simpa using hs2
            have fs2 : (topT s != 2) = true := by simpa using hs2
            have es1 : (topT s == 1) = false := by simpa using hs1
            have fs1 : (topT s != 1) = true := by simpa using hs1
            have et2 : (topT t == 2) = false := by simpa using ht2
            have ft2 : (topT t != 2) = true := by simpa using ht2
            have et1 : (topT t == 1) = true := by simpa using ht1
            have ft1 : (topT t != 1) = false := by simpa using ht1
            have HT1 := Lib.hid (top_any (canT s) A (canT s).length ca w (Reads.of_own HA.out) (canT_ne s) (by unfold maxLen; omega))
            rw [topF_can hs] at HT1
            have HT2 := Lib.hid (top_any (canT t) B (canT t).length cb w (Reads.of_own HB.out) (canT_ne t) (by unfold maxLen; omega))
            rw [topF_can ht] at HT2
            have CE := Lib.hid (rSame_any (canT s) (canT t) A B (canT s).length (canT t).length ca cb w (Reads.of_own HA.out) (Reads.of_own HB.out) (by unfold maxLen; omega) (by unfold maxLen; omega))
            rw [same_can8 hs ht (by omega) (by omega)] at CE
            have CO := Lib.hid (fun (W : World) (h : Below w.heap.size w W) => rOpposed_any s t hs ht ls lt A B ca cb W (((Reads.of_own HA.out).below h).more h.size) (((Reads.of_own HB.out).below h).more h.size))
            rw [decide_eq_true hopp] at CO
            clear HR hs2 hs1 ht2 ht1 hopp hs ht
            generalize decide (s = t) = bs at *
            generalize decide (oppT s t) = bo at *
            generalize topT s = ts at *
            generalize topT t = tt at *
            generalize canT s = la at *
            generalize canT t = lb at *
            go_enter Tryd.func64, Tryd.ntmps64
            go_wp2_with fail
            refine (HT1.out).mono ?_
            rintro r w1 ⟨rfl, rfl⟩
            go_wp2_with fail
            refine (HT2.out).mono ?_
            rintro r w1 ⟨rfl, rfl⟩
            go_wp2_with fail
            refine (CE.out).mono ?_
            rintro r w1 ⟨rfl, hb1⟩
            have HB1 := Lib.hid hb1
            clear hb1
            go_wp2_with fail
            refine (CO.out w1 HB1.out).mono ?_
            rintro r w2 ⟨rfl, hb2⟩
            have HB2 := Lib.hid (HB1.out.trans (hb2.mono HB1.out.size))
            clear hb2
            go_wp2
            go_ret
            exact ⟨A, ca, rfl, own_keep1 HA.out (fun g hg => HB2.out.block g (HA.out.lt g hg).2), HB2.out⟩
          · have HR : Hid (oL (sBoolO 5 s t) = canT (cT 2)) := Lib.hid (by simp [sBoolO, oL, hs2, hs1, ht2, ht1, hopp])
            rw [HR.out]
            have HK := Lib.hid (fun (W : World) (_ : Below w.heap.size w W) => rFalse_own8 W)
            have es2 : (topT s == 2) = false := by simpa using hs2
            have fs2 : (topT s != 2) = true := by simpa using hs2
            have es1 : (topT s == 1) = false := by simpa using hs1
            have fs1 : (topT s != 1) = true := by simpa using hs1
            have et2 : (topT t == 2) = false := by simpa using ht2
            have ft2 : (topT t != 2) = true := by simpa using ht2
            have et1 : (topT t == 1) = false := by simpa using ht1
            have ft1 : (topT t != 1) = true := by simpa using ht1
            have HT1 := Lib.hid (top_any (canT s) A (canT s).length ca w (Reads.of_own HA.out) (canT_ne s) (by unfold maxLen; omega))
            rw [topF_can hs] at HT1
            have HT2 := Lib.hid (top_any (canT t) B (canT t).length cb w (Reads.of_own HB.out) (canT_ne t) (by unfold maxLen; omega))
            rw [topF_can ht] at HT2
            have CE := Lib.hid (rSame_any (canT s) (canT t) A B (canT s).length (canT t).length ca cb w (Reads.of_own HA.out) (Reads.of_own HB.out) (by unfold maxLen; omega) (by unfold maxLen; omega))
            rw [same_can8 hs ht (by omega) (by omega)] at CE
            have CO := Lib.hid (fun (W : World) (h : Below w.heap.size w W) => rOpposed_any s t hs ht ls lt A B ca cb W (((Reads.of_own HA.out).below h).more h.size) (((Reads.of_own HB.out).below h).more h.size))
            rw [decide_eq_true hopp] at CO
            clear HR hs2 hs1 ht2 ht1 hopp hs ht
            generalize decide (s = t) = bs at *
            generalize decide (oppT s t) = bo at *
            generalize topT s = ts at *
            generalize topT t = tt at *
            generalize canT (cT 2) = ns at *
            generalize canT s = la at *
            generalize canT t = lb at *
            go_enter Tryd.func64, Tryd.ntmps64
            go_wp2_with fail
            refine (HT1.out).mono ?_
            rintro r w1 ⟨rfl, rfl⟩
            go_wp2_with fail
            refine (HT2.out).mono ?_
            rintro r w1 ⟨rfl, rfl⟩
            go_wp2_with fail
            refine (CE.out).mono ?_
            rintro r w1 ⟨rfl, hb1⟩
            have HB1 := Lib.hid hb1
            clear hb1
            go_wp2_with fail
            refine (CO.out w1 HB1.out).mono ?_
            rintro r w2 ⟨rfl, hb2⟩
            have HB2 := Lib.hid (HB1.out.trans (hb2.mono HB1.out.size))
            clear hb2
            go_wp2_with fail
            refine (HK.out w2 HB2.out).mono ?_
            rintro r wz ⟨A', c', rfl, ho, hb⟩
            have HO := Lib.hid ho
            have HBz := Lib.hid (HB2.out.trans (hb.mono HB2.out.size))
            clear ho hb
            go_wp2
            go_ret
            exact ⟨A', c', rfl, HO.out, HBz.out⟩
      · by_cases hs1 : topT s = 1
        · have HR : Hid (oL (sBoolO 5 s t) = canT t) := Lib.hid (by simp [sBoolO, oL, hs1, ht2, hopp])
          rw [HR.out]
          have es2 : (topT s == 2) = false := by simpa using hs2
          have fs2 : (topT s != 2) = true := by simpa using hs2
          have es1 : (topT s == 1) = true := by simpa using hs1
          have fs1 : (topT s != 1) = false := by simpa using hs1
          have et2 : (topT t == 2) = false := by simpa using ht2
          have ft2 : (topT t != 2) = true := by simpa using ht2
          have HT1 := Lib.hid (top_any (canT s) A (canT s).length ca w (Reads.of_own HA.out) (canT_ne s) (by unfold maxLen; omega))
          rw [topF_can hs] at HT1
          have HT2 := Lib.hid (top_any (canT t) B (canT t).length cb w (Reads.of_own HB.out) (canT_ne t) (by unfold maxLen; omega))
          rw [topF_can ht] at HT2
          have CE := Lib.hid (rSame_any (canT s) (canT t) A B (canT s).length (canT t).length ca cb w (Reads.of_own HA.out) (Reads.of_own HB.out) (by unfold maxLen; omega) (by unfold maxLen; omega))
          rw [same_can8 hs ht (by omega) (by omega)] at CE
          have CO := Lib.hid (fun (W : World) (h : Below w.heap.size w W) => rOpposed_any s t hs ht ls lt A B ca cb W (((Reads.of_own HA.out).below h).more h.size) (((Reads.of_own HB.out).below h).more h.size))
          rw [decide_eq_false hopp] at CO
          clear HR hs2 hs1 ht2 hopp hs ht
          generalize decide (s = t) = bs at *
          generalize decide (oppT s t) = bo at *
          generalize topT s = ts at *
          generalize topT t = tt at *
          generalize canT s = la at *
          generalize canT t = lb at *
          go_enter Tryd.func64, Tryd.ntmps64
          go_wp2_with fail
          refine (HT1.out).mono ?_
          rintro r w1 ⟨rfl, rfl⟩
          go_wp2_with fail
          refine (HT2.out).mono ?_
          rintro r w1 ⟨rfl, rfl⟩
          go_wp2_with fail
          refine (CE.out).mono ?_
          rintro r w1 ⟨rfl, hb1⟩
          have HB1 := Lib.hid hb1
          clear hb1
          go_wp2_with fail
          refine (CO.out w1 HB1.out).mono ?_
          rintro r w2 ⟨rfl, hb2⟩
          have HB2 := Lib.hid (HB1.out.trans (hb2.mono HB1.out.size))
          clear hb2
          go_wp2
          go_ret
          exact ⟨B, cb, rfl, own_keep1 HB.out (fun g hg => HB2.out.block g (HB.out.lt g hg).2), HB2.out⟩
        · by_cases ht1 : topT t = 1
          · have HR : Hid (oL (sBoolO 5 s t) = canT s) := Lib.hid (by simp [sBoolO, oL, hs2, hs1, ht1, hopp])
            rw [HR.out]
            have es2 : (topT s == 2) = false := by simpa using hs2
            have fs2 : (topT s != 2) = true := by simpa using hs2
            have es1 : (topT s == 1) = false := by simpa using hs1
            have fs1 : (topT s != 1) = true := by simpa using hs1
            have et2 : (topT t == 2) = false := by simpa using ht2
            have ft2 : (topT t != 2) = true := by simpa using ht2
            have et1 : (topT t == 1) = true := by simpa using ht1
            have ft1 : (topT t != 1) = false := by simpa using ht1
            have HT1 := Lib.hid (top_any (canT s) A (canT s).length ca w (Reads.of_own HA.out) (canT_ne s) (by unfold maxLen; omega))
            rw [topF_can hs] at HT1
            have HT2 := Lib.hid (top_any (canT t) B (canT t).length cb w (Reads.of_own HB.out) (canT_ne t) (by unfold maxLen; omega))
            rw [topF_can ht] at HT2
            have CE := Lib.hid (rSame_any (canT s) (canT t) A B (canT s).length (canT t).length ca cb w (Reads.of_own HA.out) (Reads.of_own HB.out) (by unfold maxLen; omega) (by unfold maxLen; omega))
            rw [same_can8 hs ht (by omega) (by omega)] at CE
            have CO := Lib.hid (fun (W : World) (h : Below w.heap.size w W) => rOpposed_any s t hs ht ls lt A B ca cb W (((Reads.of_own HA.out).below h).more h.size) (((Reads.of_own HB.out).below h).more h.size))
            rw [decide_eq_false hopp] at CO
            clear HR hs2 hs1 ht2 ht1 hopp hs ht
            generalize decide (s = t) = bs at *
            generalize decide (oppT s t) = bo at *
            generalize topT s = ts at *
            generalize topT t = tt at *
            generalize canT s = la at *
            generalize canT t = lb at *
            go_enter Tryd.func64, Tryd.ntmps64
            go_wp2_with fail
            refine (HT1.out).mono ?_
            rintro r w1 ⟨rfl, rfl⟩
            go_wp2_with fail
            refine (HT2.out).mono ?_
            rintro r w1 ⟨rfl, rfl⟩
            go_wp2_with fail
            refine (CE.out).mono ?_
            rintro r w1 ⟨rfl, hb1⟩
            have HB1 := Lib.hid hb1
            clear hb1
            go_wp2_with fail
            refine (CO.out w1 HB1.out).mono ?_
            rintro r w2 ⟨rfl, hb2⟩
            have HB2 := Lib.hid (HB1.out.trans (hb2.mono HB1.out.size))
            clear hb2
            go_wp2
            go_ret
            exact ⟨A, ca, rfl, own_keep1 HA.out (fun g hg => HB2.out.block g (HA.out.lt g hg).2), HB2.out⟩
          · by_cases hsame : s = t
            · have HR : Hid (oL (sBoolO 5 s t) = canT s) := Lib.hid (by subst hsame; simp [sBoolO, oL, hs2, hs1, hopp])
              rw [HR.out]
              have es2 : (topT s == 2) = false := by simpa using hs2
              have fs2 : (topT s != 2) = true := by simpa using hs2
              have es1 : (topT s == 1) = false := by simpa using hs1
              have fs1 : (topT s != 1) = true := by simpa using hs1
              have et2 : (topT t == 2) = false := by simpa using ht2
              have ft2 : (topT t != 2) = true := by simpa using ht2
              have et1 : (topT t == 1) = false := by simpa using ht1
              have ft1 : (topT t != 1) = true := by simpa using ht1
              have HT1 := Lib.hid (top_any (canT s) A (canT s).length ca w (Reads.of_own HA.out) (canT_ne s) (by unfold maxLen; omega))
              rw [topF_can hs] at HT1
              have HT2 := Lib.hid (top_any (canT t) B (canT t).length cb w (Reads.of_own HB.out) (canT_ne t) (by unfold maxLen; omega))
              rw [topF_can ht] at HT2
              have CE := Lib.hid (rSame_any (canT s) (canT t) A B (canT s).length (canT t).length ca cb w (Reads.of_own HA.out) (Reads.of_own HB.out) (by unfold maxLen; omega) (by unfold maxLen; omega))
              rw [same_can8 hs ht (by omega) (by omega)] at CE
              have CO := Lib.hid (fun (W : World) (h : Below w.heap.size w W) => rOpposed_any s t hs ht ls lt A B ca cb W (((Reads.of_own HA.out).below h).more h.size) (((Reads.of_own HB.out).below h).more h.size))
              rw [decide_eq_true hsame] at CE
              rw [decide_eq_false hopp] at CO
              clear HR hs2 hs1 ht2 ht1 hsame hopp hs ht
              generalize decide (s = t) = bs at *
              generalize decide (oppT s t) = bo at *
              generalize topT s = ts at *
              generalize topT t = tt at *
              generalize canT s = la at *
              generalize canT t = lb at *
              go_enter Tryd.func64, Tryd.ntmps64
              go_wp2_with fail
              refine (HT1.out).mono ?_
              rintro r w1 ⟨rfl, rfl⟩
              go_wp2_with fail
              refine (HT2.out).mono ?_
              rintro r w1 ⟨rfl, rfl⟩
              go_wp2_with fail
              refine (CE.out).mono ?_
              rintro r w1 ⟨rfl, hb1⟩
              have HB1 := Lib.hid hb1
              clear hb1
              go_wp2_with fail
              refine (CO.out w1 HB1.out).mono ?_
              rintro r w2 ⟨rfl, hb2⟩
              have HB2 := Lib.hid (HB1.out.trans (hb2.mono HB1.out.size))
              clear hb2
              go_wp2
              go_ret
              exact ⟨A, ca, rfl, own_keep1 HA.out (fun g hg => HB2.out.block g (HA.out.lt g hg).2), HB2.out⟩
            · have HR : Hid (oL (sBoolO 5 s t) = []) := Lib.hid (by simp [sBoolO, oL, hs2, hs1, ht2, ht1, hsame, hopp])
              rw [HR.out]
              have es2 : (topT s == 2) = false := by simpa using hs2
              have fs2 : (topT s != 2) = true := by simpa using hs2
              have es1 : (topT s == 1) = false := by simpa using hs1
              have fs1 : (topT s != 1) = true := by simpa using hs1
              have et2 : (topT t == 2) = false := by simpa using ht2
              have ft2 : (topT t != 2) = true := by simpa using ht2
              have et1 : (topT t == 1) = false := by simpa using ht1
              have ft1 : (topT t != 1) = true := by simpa using ht1
              have HT1 := Lib.hid (top_any (canT s) A (canT s).length ca w (Reads.of_own HA.out) (canT_ne s) (by unfold maxLen; omega))
              rw [topF_can hs] at HT1
              have HT2 := Lib.hid (top_any (canT t) B (canT t).length cb w (Reads.of_own HB.out) (canT_ne t) (by unfold maxLen; omega))
              rw [topF_can ht] at HT2
              have CE := Lib.hid (rSame_any (canT s) (canT t) A B (canT s).length (canT t).length ca cb w (Reads.of_own HA.out) (Reads.of_own HB.out) (by unfold maxLen; omega) (by unfold maxLen; omega))
              rw [same_can8 hs ht (by omega) (by omega)] at CE
              have CO := Lib.hid (fun (W : World) (h : Below w.heap.size w W) => rOpposed_any s t hs ht ls lt A B ca cb W (((Reads.of_own HA.out).below h).more h.size) (((Reads.of_own HB.out).below h).more h.size))
              rw [decide_eq_false hsame] at CE
              rw [decide_eq_false hopp] at CO
              clear HR hs2 hs1 ht2 ht1 hsame hopp hs ht
              generalize decide (s = t) = bs at *
              generalize decide (oppT s t) = bo at *
              generalize topT s = ts at *
              generalize topT t = tt at *
              generalize canT s = la at *
              generalize canT t = lb at *
              go_enter Tryd.func64, Tryd.ntmps64
              go_wp2_with fail
              refine (HT1.out).mono ?_
              rintro r w1 ⟨rfl, rfl⟩
              go_wp2_with fail
              refine (HT2.out).mono ?_
              rintro r w1 ⟨rfl, rfl⟩
              go_wp2_with fail
              refine (CE.out).mono ?_
              rintro r w1 ⟨rfl, hb1⟩
              have HB1 := Lib.hid hb1
              clear hb1
              go_wp2_with fail
              refine (CO.out w1 HB1.out).mono ?_
              rintro r w2 ⟨rfl, hb2⟩
              have HB2 := Lib.hid (HB1.out.trans (hb2.mono HB1.out.size))
              clear hb2
              go_wp2
              go_ret
              exact ⟨none, 0, rfl, World.ownsRow_nil _ _ _ _, HB2.out⟩
set_option maxHeartbeats 8000000 in
theorem sBool6_any (s t : Tr) (hs : AllOk s) (ht : AllOk t) (ls : (canT s).length ≤ 199) (lt : (canT t).length ≤ 199) (A B : Option Addr) (ca cb : Nat) (w : World) (hA : w.ownsRow 0 62 6 (.slice A (canT s).length ca) (canT s).length (nds (canT s))) (hB : w.ownsRow 0 62 6 (.slice B (canT t).length cb) (canT t).length (nds (canT t))) :
    Calls Tryd.prog 64 #[.int .i64 6, .slice A (canT s).length ca, .slice B (canT t).length cb] w fun e w' => ∃ A' c', e = .returned (.slice A' (oL (sBoolO 6 s t)).length c') ∧ w'.ownsRow 0 62 6 (.slice A' (oL (sBoolO 6 s t)).length c') (oL (sBoolO 6 s t)).length (nds (oL (sBoolO 6 s t))) ∧ Below w.heap.size w w' := by
  have HA := Lib.hid hA
  have HB := Lib.hid hB
  clear hA hB
  by_cases hs1 : topT s = 1
  · have HR : Hid (oL (sBoolO 6 s t) = canT (cT 1)) := Lib.hid (by simp [sBoolO, oL, hs1])
    rw [HR.out]
    have HK := Lib.hid (fun (W : World) (_ : Below w.heap.size w W) => rTrue_own8 W)
    have es1 : (topT s == 1) = true := by simpa using hs1
    have fs1 : (topT s != 1) = false := by simpa using hs1
    have HT1 := Lib.hid (top_any (canT s) A (canT s).length ca w (Reads.of_own HA.out) (canT_ne s) (by unfold maxLen; omega))
    rw [topF_can hs] at HT1
    have HT2 := Lib.hid (top_any (canT t) B (canT t).length cb w (Reads.of_own HB.out) (canT_ne t) (by unfold maxLen; omega))
    rw [topF_can ht] at HT2
    have CE := Lib.hid (rSame_any (canT s) (canT t) A B (canT s).length (canT t).length ca cb w (Reads.of_own HA.out) (Reads.of_own HB.out) (by unfold maxLen; omega) (by unfold maxLen; omega))
    rw [same_can8 hs ht (by omega) (by omega)] at CE
    have CO := Lib.hid (fun (W : World) (h : Below w.heap.size w W) => rOpposed_any s t hs ht ls lt A B ca cb W (((Reads.of_own HA.out).below h).more h.size) (((Reads.of_own HB.out).below h).more h.size))
    clear HR hs1 hs ht
    generalize decide (s = t) = bs at *
    generalize decide (oppT s t) = bo at *
    generalize topT s = ts at *
    generalize topT t = tt at *
    generalize canT (cT 1) = ns at *
    generalize canT s = la at *
    generalize canT t = lb at *
    go_enter Tryd.func64, Tryd.ntmps64
    go_wp2_with fail
    refine (HT1.out).mono ?_
    rintro r w1 ⟨rfl, rfl⟩
    go_wp2_with fail
    refine (HT2.out).mono ?_
    rintro r w1 ⟨rfl, rfl⟩
    go_wp2_with fail
    refine (CE.out).mono ?_
    rintro r w1 ⟨rfl, hb1⟩
    have HB1 := Lib.hid hb1
    clear hb1
    go_wp2_with fail
    refine (CO.out w1 HB1.out).mono ?_
    rintro r w2 ⟨rfl, hb2⟩
    have HB2 := Lib.hid (HB1.out.trans (hb2.mono HB1.out.size))
    clear hb2
    go_wp2_with fail
    refine (HK.out w2 HB2.out).mono ?_
    rintro r wz ⟨A', c', rfl, ho, hb⟩
    have HO := Lib.hid ho
    have HBz := Lib.hid (HB2.out.trans (hb.mono HB2.out.size))
    clear ho hb
    go_wp2
    go_ret
    exact ⟨A', c', rfl, HO.out, HBz.out⟩
  · by_cases ht1 : topT t = 1
    · have HR : Hid (oL (sBoolO 6 s t) = canT (cT 1)) := Lib.hid (by simp [sBoolO, oL, hs1, ht1])
      rw [HR.out]
      have HK := Lib.hid (fun (W : World) (_ : Below w.heap.size w W) => rTrue_own8 W)
      have es1 : (topT s == 1) = false := by simpa using hs1
      have fs1 : (topT s != 1) = true := by simpa using hs1
      have et1 : (topT t == 1) = true := by simpa using ht1
      have ft1 : (topT t != 1) = false := by simpa using ht1
      have HT1 := Lib.hid (top_any (canT s) A (canT s).length ca w (Reads.of_own HA.out) (canT_ne s) (by unfold maxLen; omega))
      rw [topF_can hs] at HT1
      have HT2 := Lib.hid (top_any (canT t) B (canT t).length cb w (Reads.of_own HB.out) (canT_ne t) (by unfold maxLen; omega))
      rw [topF_can ht] at HT2
      have CE := Lib.hid (rSame_any (canT s) (canT t) A B (canT s).length (canT t).length ca cb w (Reads.of_own HA.out) (Reads.of_own HB.out) (by unfold maxLen; omega) (by unfold maxLen; omega))
      rw [same_can8 hs ht (by omega) (by omega)] at CE
      have CO := Lib.hid (fun (W : World) (h : Below w.heap.size w W) => rOpposed_any s t hs ht ls lt A B ca cb W (((Reads.of_own HA.out).below h).more h.size) (((Reads.of_own HB.out).below h).more h.size))
      clear HR hs1 ht1 hs ht
      generalize decide (s = t) = bs at *
      generalize decide (oppT s t) = bo at *
      generalize topT s = ts at *
      generalize topT t = tt at *
      generalize canT (cT 1) = ns at *
      generalize canT s = la at *
      generalize canT t = lb at *
      go_enter Tryd.func64, Tryd.ntmps64
      go_wp2_with fail
      refine (HT1.out).mono ?_
      rintro r w1 ⟨rfl, rfl⟩
      go_wp2_with fail
      refine (HT2.out).mono ?_
      rintro r w1 ⟨rfl, rfl⟩
      go_wp2_with fail
      refine (CE.out).mono ?_
      rintro r w1 ⟨rfl, hb1⟩
      have HB1 := Lib.hid hb1
      clear hb1
      go_wp2_with fail
      refine (CO.out w1 HB1.out).mono ?_
      rintro r w2 ⟨rfl, hb2⟩
      have HB2 := Lib.hid (HB1.out.trans (hb2.mono HB1.out.size))
      clear hb2
      go_wp2_with fail
      refine (HK.out w2 HB2.out).mono ?_
      rintro r wz ⟨A', c', rfl, ho, hb⟩
      have HO := Lib.hid ho
      have HBz := Lib.hid (HB2.out.trans (hb.mono HB2.out.size))
      clear ho hb
      go_wp2
      go_ret
      exact ⟨A', c', rfl, HO.out, HBz.out⟩
    · by_cases hopp : oppT s t
      · by_cases hs2 : topT s = 2
        · have HR : Hid (oL (sBoolO 6 s t) = canT t) := Lib.hid (by simp [sBoolO, oL, hs2, ht1, hopp])
          rw [HR.out]
          have es1 : (topT s == 1) = false := by simpa using hs1
          have fs1 : (topT s != 1) = true := by simpa using hs1
          have es2 : (topT s == 2) = true := by simpa using hs2
          have fs2 : (topT s != 2) = false := by simpa using hs2
          have et1 : (topT t == 1) = false := by simpa using ht1
          have ft1 : (topT t != 1) = true := by simpa using ht1
          have HT1 := Lib.hid (top_any (canT s) A (canT s).length ca w (Reads.of_own HA.out) (canT_ne s) (by unfold maxLen; omega))
          rw [topF_can hs] at HT1
          have HT2 := Lib.hid (top_any (canT t) B (canT t).length cb w (Reads.of_own HB.out) (canT_ne t) (by unfold maxLen; omega))
          rw [topF_can ht] at HT2
          have CE := Lib.hid (rSame_any (canT s) (canT t) A B (canT s).length (canT t).length ca cb w (Reads.of_own HA.out) (Reads.of_own HB.out) (by unfold maxLen; omega) (by unfold maxLen; omega))
          rw [same_can8 hs ht (by omega) (by omega)] at CE
          have CO := Lib.hid (fun (W : World) (h : Below w.heap.size w W) => rOpposed_any s t hs ht ls lt A B ca cb W (((Reads.of_own HA.out).below h).more h.size) (((Reads.of_own HB.out).below h).more h.size))
          rw [decide_eq_true hopp] at CO
          clear HR hs1 hs2 ht1 hopp hs ht
          generalize decide (s = t) = bs at *
          generalize decide (oppT s t) = bo at *
          generalize topT s = ts at *
          generalize topT t = tt at *
          generalize canT s = la at *
          generalize canT t = lb at *
          go_enter Tryd.func64, Tryd.ntmps64
          go_wp2_with fail
          refine (HT1.out).mono ?_
          rintro r w1 ⟨rfl, rfl⟩
          go_wp2_with fail
          refine (HT2.out).mono ?_
          rintro r w1 ⟨rfl, rfl⟩
          go_wp2_with fail
          refine (CE.out).mono ?_
          rintro r w1 ⟨rfl, hb1⟩
          have HB1 := Lib.hid hb1
          clear hb1
          go_wp2_with fail
          refine (CO.out w1 HB1.out).mono ?_
          rintro r w2 ⟨rfl, hb2⟩
          have HB2 := Lib.hid (HB1.out.trans (hb2.mono HB1.out.size))
          clear hb2
          go_wp2
          go_ret
          exact ⟨B, cb, rfl, own_keep1 HB.out (fun g hg => HB2.out.block g (HB.out.lt g hg).2), HB2.out⟩
        · by_cases ht2 : topT t = 2
          · have HR : Hid (oL (sBoolO 6 s t) = canT s) := Lib.hid (by simp [sBoolO, oL, hs1, hs2, ht2, hopp])
            rw [HR.out]
            have es1 : (topT s == 1) = false := by simpa using hs1
            have fs1 : (topT s != 1) = true := by simpa using hs1
            have es2 : (topT s == 2) = false := by simpa using hs2
            have fs2 : (topT s != 2) = true := by simpa using hs2
            have et1 : (topT t == 1) = false := by simpa using ht1
            have ft1 : (topT t != 1) = true := by simpa using ht1
            have et2 : (topT t == 2) = true := by simpa using ht2
            have ft2 : (topT t != 2) = false := by simpa using ht2
            have HT1 := Lib.hid (top_any (canT s) A (canT s).length ca w (Reads.of_own HA.out) (canT_ne s) (by unfold maxLen; omega))
            rw [topF_can hs] at HT1
            have HT2 := Lib.hid (top_any (canT t) B (canT t).length cb w (Reads.of_own HB.out) (canT_ne t) (by unfold maxLen; omega))
            rw [topF_can ht] at HT2
            have CE := Lib.hid (rSame_any (canT s) (canT t) A B (canT s).length (canT t).length ca cb w (Reads.of_own HA.out) (Reads.of_own HB.out) (by unfold maxLen; omega) (by unfold maxLen; omega))
            rw [same_can8 hs ht (by omega) (by omega)] at CE
            have CO := Lib.hid (fun (W : World) (h : Below w.heap.size w W) => rOpposed_any s t hs ht ls lt A B ca cb W (((Reads.of_own HA.out).below h).more h.size) (((Reads.of_own HB.out).below h).more h.size))
            rw [decide_eq_true hopp] at CO
            clear HR hs1 hs2 ht1 ht2 hopp hs ht
            generalize decide (s = t) = bs at *
            generalize decide (oppT s t) = bo at *
            generalize topT s = ts at *
            generalize topT t = tt at *
            generalize canT s = la at *
            generalize canT t = lb at *
            go_enter Tryd.func64, Tryd.ntmps64
            go_wp2_with fail
            refine (HT1.out).mono ?_
            rintro r w1 ⟨rfl, rfl⟩
            go_wp2_with fail
            refine (HT2.out).mono ?_
            rintro r w1 ⟨rfl, rfl⟩
            go_wp2_with fail
            refine (CE.out).mono ?_
            rintro r w1 ⟨rfl, hb1⟩
            have HB1 := Lib.hid hb1
            clear hb1
            go_wp2_with fail
            refine (CO.out w1 HB1.out).mono ?_
            rintro r w2 ⟨rfl, hb2⟩
            have HB2 := Lib.hid (HB1.out.trans (hb2.mono HB1.out.size))
            clear hb2
            go_wp2
            go_ret
            exact ⟨A, ca, rfl, own_keep1 HA.out (fun g hg => HB2.out.block g (HA.out.lt g hg).2), HB2.out⟩
          · have HR : Hid (oL (sBoolO 6 s t) = canT (cT 1)) := Lib.hid (by simp [sBoolO, oL, hs1, hs2, ht1, ht2, hopp])
            rw [HR.out]
            have HK := Lib.hid (fun (W : World) (_ : Below w.heap.size w W) => rTrue_own8 W)
            have es1 : (topT s == 1) = false := by simpa using hs1
            have fs1 : (topT s != 1) = true := by simpa using hs1
            have es2 : (topT s == 2) = false := by simpa using hs2
            have fs2 : (topT s != 2) = true := by simpa using hs2
            have et1 : (topT t == 1) = false := by simpa using ht1
            have ft1 : (topT t != 1) = true := by simpa using ht1
            have et2 : (topT t == 2) = false := by simpa using ht2
            have ft2 : (topT t != 2) = true := by simpa using ht2
            have HT1 := Lib.hid (top_any (canT s) A (canT s).length ca w (Reads.of_own HA.out) (canT_ne s) (by unfold maxLen; omega))
            rw [topF_can hs] at HT1
            have HT2 := Lib.hid (top_any (canT t) B (canT t).length cb w (Reads.of_own HB.out) (canT_ne t) (by unfold maxLen; omega))
            rw [topF_can ht] at HT2
            have CE := Lib.hid (rSame_any (canT s) (canT t) A B (canT s).length (canT t).length ca cb w (Reads.of_own HA.out) (Reads.of_own HB.out) (by unfold maxLen; omega) (by unfold maxLen; omega))
            rw [same_can8 hs ht (by omega) (by omega)] at CE
            have CO := Lib.hid (fun (W : World) (h : Below w.heap.size w W) => rOpposed_any s t hs ht ls lt A B ca cb W (((Reads.of_own HA.out).below h).more h.size) (((Reads.of_own HB.out).below h).more h.size))
            rw [decide_eq_true hopp] at CO
            clear HR hs1 hs2 ht1 ht2 hopp hs ht
            generalize decide (s = t) = bs at *
            generalize decide (oppT s t) = bo at *
            generalize topT s = ts at *
            generalize topT t = tt at *
            generalize canT (cT 1) = ns at *
            generalize canT s = la at *
            generalize canT t = lb at *
            go_enter Tryd.func64, Tryd.ntmps64
            go_wp2_with fail
            refine (HT1.out).mono ?_
            rintro r w1 ⟨rfl, rfl⟩
            go_wp2_with fail
            refine (HT2.out).mono ?_
            rintro r w1 ⟨rfl, rfl⟩
            go_wp2_with fail
            refine (CE.out).mono ?_
            rintro r w1 ⟨rfl, hb1⟩
            have HB1 := Lib.hid hb1
            clear hb1
            go_wp2_with fail
            refine (CO.out w1 HB1.out).mono ?_
            rintro r w2 ⟨rfl, hb2⟩
            have HB2 := Lib.hid (HB1.out.trans (hb2.mono HB1.out.size))
            clear hb2
            go_wp2_with fail
            refine (HK.out w2 HB2.out).mono ?_
            rintro r wz ⟨A', c', rfl, ho, hb⟩
            have HO := Lib.hid ho
            have HBz := Lib.hid (HB2.out.trans (hb.mono HB2.out.size))
            clear ho hb
            go_wp2
            go_ret
            exact ⟨A', c', rfl, HO.out, HBz.out⟩
      · by_cases hs2 : topT s = 2
        · have HR : Hid (oL (sBoolO 6 s t) = canT t) := Lib.hid (by simp [sBoolO, oL, hs2, ht1, hopp])
          rw [HR.out]
          have es1 : (topT s == 1) = false := by simpa using hs1
          have fs1 : (topT s != 1) = true := by simpa using hs1
          have es2 : (topT s == 2) = true := by simpa using hs2
          have fs2 : (topT s != 2) = false := by simpa using hs2
          have et1 : (topT t == 1) = false := by simpa using ht1
          have ft1 : (topT t != 1) = true := by simpa using ht1
          have HT1 := Lib.hid (top_any (canT s) A (canT s).length ca w (Reads.of_own HA.out) (canT_ne s) (by unfold maxLen; omega))
          rw [topF_can hs] at HT1
          have HT2 := Lib.hid (top_any (canT t) B (canT t).length cb w (Reads.of_own HB.out) (canT_ne t) (by unfold maxLen; omega))
          rw [topF_can ht] at HT2
          have CE := Lib.hid (rSame_any (canT s) (canT t) A B (canT s).length (canT t).length ca cb w (Reads.of_own HA.out) (Reads.of_own HB.out) (by unfold maxLen; omega) (by unfold maxLen; omega))
          rw [same_can8 hs ht (by omega) (by omega)] at CE
          have CO := Lib.hid (fun (W : World) (h : Below w.heap.size w W) => rOpposed_any s t hs ht ls lt A B ca cb W (((Reads.of_own HA.out).below h).more h.size) (((Reads.of_own HB.out).below h).more h.size))
          rw [decide_eq_false hopp] at CO
          clear HR hs1 hs2 ht1 hopp hs ht
          generalize decide (s = t) = bs at *
          generalize decide (oppT s t) = bo at *
          generalize topT s = ts at *
          generalize topT t = tt at *
          generalize canT s = la at *
          generalize canT t = lb at *
          go_enter Tryd.func64, Tryd.ntmps64
          go_wp2_with fail
          refine (HT1.out).mono ?_
          rintro r w1 ⟨rfl, rfl⟩
          go_wp2_with fail
          refine (HT2.out).mono ?_
          rintro r w1 ⟨rfl, rfl⟩
          go_wp2_with fail
          refine (CE.out).mono ?_
          rintro r w1 ⟨rfl, hb1⟩
          have HB1 := Lib.hid hb1
          clear hb1
          go_wp2_with fail
          refine (CO.out w1 HB1.out).mono ?_
          rintro r w2 ⟨rfl, hb2⟩
          have HB2 := Lib.hid (HB1.out.trans (hb2.mono HB1.out.size))
          clear hb2
          go_wp2
          go_ret
          exact ⟨B, cb, rfl, own_keep1 HB.out (fun g hg => HB2.out.block g (HB.out.lt g hg).2), HB2.out⟩
        · by_cases ht2 : topT t = 2
          · have HR : Hid (oL (sBoolO 6 s t) = canT s) := Lib.hid (by simp [sBoolO, oL, hs1, hs2, ht2, hopp])
            rw [HR.out]
            have es1 : (topT s == 1) = false := by simpa using hs1
            have fs1 : (topT s != 1) = true := by simpa using hs1
            have es2 : (topT s == 2) = false := by simpa using hs2
            have fs2 : (topT s != 2) = true := by simpa using hs2
            have et1 : (topT t == 1) = false := by simpa using ht1
            have ft1 : (topT t != 1) = true := by simpa using ht1
            have et2 : (topT t == 2) = true := by simpa using ht2
            have ft2 : (topT t != 2) = false := by simpa using ht2
            have HT1 := Lib.hid (top_any (canT s) A (canT s).length ca w (Reads.of_own HA.out) (canT_ne s) (by unfold maxLen; omega))
            rw [topF_can hs] at HT1
            have HT2 := Lib.hid (top_any (canT t) B (canT t).length cb w (Reads.of_own HB.out) (canT_ne t) (by unfold maxLen; omega))
            rw [topF_can ht] at HT2
            have CE := Lib.hid (rSame_any (canT s) (canT t) A B (canT s).length (canT t).length ca cb w (Reads.of_own HA.out) (Reads.of_own HB.out) (by unfold maxLen; omega) (by unfold maxLen; omega))
            rw [same_can8 hs ht (by omega) (by omega)] at CE
            have CO := Lib.hid (fun (W : World) (h : Below w.heap.size w W) => rOpposed_any s t hs ht ls lt A B ca cb W (((Reads.of_own HA.out).below h).more h.size) (((Reads.of_own HB.out).below h).more h.size))
            rw [decide_eq_false hopp] at CO
            clear HR hs1 hs2 ht1 ht2 hopp hs ht
            generalize decide (s = t) = bs at *
            generalize decide (oppT s t) = bo at *
            generalize topT s = ts at *
            generalize topT t = tt at *
            generalize canT s = la at *
            generalize canT t = lb at *
            go_enter Tryd.func64, Tryd.ntmps64
            go_wp2_with fail
            refine (HT1.out).mono ?_
            rintro r w1 ⟨rfl, rfl⟩
            go_wp2_with fail
            refine (HT2.out).mono ?_
            rintro r w1 ⟨rfl, rfl⟩
            go_wp2_with fail
            refine (CE.out).mono ?_
            rintro r w1 ⟨rfl, hb1⟩
            have HB1 := Lib.hid hb1
            clear hb1
            go_wp2_with fail
            refine (CO.out w1 HB1.out).mono ?_
            rintro r w2 ⟨rfl, hb2⟩
            have HB2 := Lib.hid (HB1.out.trans (hb2.mono HB1.out.size))
            clear hb2
            go_wp2
            go_ret
            exact ⟨A, ca, rfl, own_keep1 HA.out (fun g hg => HB2.out.block g (HA.out.lt g hg).2), HB2.out⟩
          · by_cases hsame : s = t
            · have HR : Hid (oL (sBoolO 6 s t) = canT s) := Lib.hid (by subst hsame; simp [sBoolO, oL, hs1, hs2, hopp])
              rw [HR.out]
              have es1 : (topT s == 1) = false := by simpa using hs1
              have fs1 : (topT s != 1) = true := by simpa using hs1
              have es2 : (topT s == 2) = false := by simpa using hs2
              have fs2 : (topT s != 2) = true := by simpa using hs2
              have et1 : (topT t == 1) = false := by simpa using ht1
              have ft1 : (topT t != 1) = true := by simpa using ht1
              have et2 : (topT t == 2) = false := by simpa using ht2
              have ft2 : (topT t != 2) = true := by simpa using ht2
              have HT1 := Lib.hid (top_any (canT s) A (canT s).length ca w (Reads.of_own HA.out) (canT_ne s) (by unfold maxLen; omega))
              rw [topF_can hs] at HT1
              have HT2 := Lib.hid (top_any (canT t) B (canT t).length cb w (Reads.of_own HB.out) (canT_ne t) (by unfold maxLen; omega))
              rw [topF_can ht] at HT2
              have CE := Lib.hid (rSame_any (canT s) (canT t) A B (canT s).length (canT t).length ca cb w (Reads.of_own HA.out) (Reads.of_own HB.out) (by unfold maxLen; omega) (by unfold maxLen; omega))
              rw [same_can8 hs ht (by omega) (by omega)] at CE
              have CO := Lib.hid (fun (W : World) (h : Below w.heap.size w W) => rOpposed_any s t hs ht ls lt A B ca cb W (((Reads.of_own HA.out).below h).more h.size) (((Reads.of_own HB.out).below h).more h.size))
              rw [decide_eq_true hsame] at CE
              rw [decide_eq_false hopp] at CO
              clear HR hs1 hs2 ht1 ht2 hsame hopp hs ht
              generalize decide (s = t) = bs at *
              generalize decide (oppT s t) = bo at *
              generalize topT s = ts at *
              generalize topT t = tt at *
              generalize canT s = la at *
              generalize canT t = lb at *
              go_enter Tryd.func64, Tryd.ntmps64
              go_wp2_with fail
              refine (HT1.out).mono ?_
              rintro r w1 ⟨rfl, rfl⟩
              go_wp2_with fail
              refine (HT2.out).mono ?_
              rintro r w1 ⟨rfl, rfl⟩
              go_wp2_with fail
              refine (CE.out).mono ?_
              rintro r w1 ⟨rfl, hb1⟩
              have HB1 := Lib.hid hb1
              clear hb1
              go_wp2_with fail
              refine (CO.out w1 HB1.out).mono ?_
              rintro r w2 ⟨rfl, hb2⟩
              have HB2 := Lib.hid (HB1.out.trans (hb2.mono HB1.out.size))
              clear hb2
              go_wp2
              go_ret
              exact ⟨A, ca, rfl, own_keep1 HA.out (fun g hg => HB2.out.block g (HA.out.lt g hg).2), HB2.out⟩
            · have HR : Hid (oL (sBoolO 6 s t) = []) := Lib.hid (by simp [sBoolO, oL, hs1, hs2, ht1, ht2, hsame, hopp])
              rw [HR.out]
              have es1 : (topT s == 1) = false := by simpa using hs1
              have fs1 : (topT s != 1) = true := by simpa using hs1
              have es2 : (topT s == 2) = false := by simpa using hs2
              have fs2 : (topT s != 2) = true := by simpa using hs2
              have et1 : (topT t == 1) = false := by simpa using ht1
              have ft1 : (topT t != 1) = true := by simpa using ht1
              have et2 : (topT t == 2) = false := by simpa using ht2
              have ft2 : (topT t != 2) = true := by simpa using ht2
              have HT1 := Lib.hid (top_any (canT s) A (canT s).length ca w (Reads.of_own HA.out) (canT_ne s) (by unfold maxLen; omega))
              rw [topF_can hs] at HT1
              have HT2 := Lib.hid (top_any (canT t) B (canT t).length cb w (Reads.of_own HB.out) (canT_ne t) (by unfold maxLen; omega))
              rw [topF_can ht] at HT2
              have CE := Lib.hid (rSame_any (canT s) (canT t) A B (canT s).length (canT t).length ca cb w (Reads.of_own HA.out) (Reads.of_own HB.out) (by unfold maxLen; omega) (by unfold maxLen; omega))
              rw [same_can8 hs ht (by omega) (by omega)] at CE
              have CO := Lib.hid (fun (W : World) (h : Below w.heap.size w W) => rOpposed_any s t hs ht ls lt A B ca cb W (((Reads.of_own HA.out).below h).more h.size) (((Reads.of_own HB.out).below h).more h.size))
              rw [decide_eq_false hsame] at CE
              rw [decide_eq_false hopp] at CO
              clear HR hs1 hs2 ht1 ht2 hsame hopp hs ht
              generalize decide (s = t) = bs at *
              generalize decide (oppT s t) = bo at *
              generalize topT s = ts at *
              generalize topT t = tt at *
              generalize canT s = la at *
              generalize canT t = lb at *
              go_enter Tryd.func64, Tryd.ntmps64
              go_wp2_with fail
              refine (HT1.out).mono ?_
              rintro r w1 ⟨rfl, rfl⟩
              go_wp2_with fail
              refine (HT2.out).mono ?_
              rintro r w1 ⟨rfl, rfl⟩
              go_wp2_with fail
              refine (CE.out).mono ?_
              rintro r w1 ⟨rfl, hb1⟩
              have HB1 := Lib.hid hb1
              clear hb1
              go_wp2_with fail
              refine (CO.out w1 HB1.out).mono ?_
              rintro r w2 ⟨rfl, hb2⟩
              have HB2 := Lib.hid (HB1.out.trans (hb2.mono HB1.out.size))
              clear hb2
              go_wp2
              go_ret
              exact ⟨none, 0, rfl, World.ownsRow_nil _ _ _ _, HB2.out⟩
set_option maxHeartbeats 8000000 in
theorem sBool7_any (s t : Tr) (hs : AllOk s) (ht : AllOk t) (ls : (canT s).length ≤ 199) (lt : (canT t).length ≤ 199) (A B : Option Addr) (ca cb : Nat) (w : World) (hA : w.ownsRow 0 62 6 (.slice A (canT s).length ca) (canT s).length (nds (canT s))) (hB : w.ownsRow 0 62 6 (.slice B (canT t).length cb) (canT t).length (nds (canT t))) :
    Calls Tryd.prog 64 #[.int .i64 7, .slice A (canT s).length ca, .slice B (canT t).length cb] w fun e w' => ∃ A' c', e = .returned (.slice A' (oL (sBoolO 7 s t)).length c') ∧ w'.ownsRow 0 62 6 (.slice A' (oL (sBoolO 7 s t)).length c') (oL (sBoolO 7 s t)).length (nds (oL (sBoolO 7 s t))) ∧ Below w.heap.size w w' := by
  have HA := Lib.hid hA
  have HB := Lib.hid hB
  clear hA hB
  by_cases hs2 : topT s = 2
  · have HR : Hid (oL (sBoolO 7 s t) = canT (cT 1)) := Lib.hid (by simp [sBoolO, oL, hs2])
    rw [HR.out]
    have HK := Lib.hid (fun (W : World) (_ : Below w.heap.size w W) => rTrue_own8 W)
    have es2 : (topT s == 2) = true := by simpa using hs2
    have fs2 : (topT s != 2) = false := by simpa using hs2
    have HT1 := Lib.hid (top_any (canT s) A (canT s).length ca w (Reads.of_own HA.out) (canT_ne s) (by unfold maxLen; omega))
    rw [topF_can hs] at HT1
    have HT2 := Lib.hid (top_any (canT t) B (canT t).length cb w (Reads.of_own HB.out) (canT_ne t) (by unfold maxLen; omega))
    rw [topF_can ht] at HT2
    have CE := Lib.hid (rSame_any (canT s) (canT t) A B (canT s).length (canT t).length ca cb w (Reads.of_own HA.out) (Reads.of_own HB.out) (by unfold maxLen; omega) (by unfold maxLen; omega))
    rw [same_can8 hs ht (by omega) (by omega)] at CE
    have CO := Lib.hid (fun (W : World) (h : Below w.heap.size w W) => rOpposed_any s t hs ht ls lt A B ca cb W (((Reads.of_own HA.out).below h).more h.size) (((Reads.of_own HB.out).below h).more h.size))
    clear HR hs2 hs ht
    generalize decide (s = t) = bs at *
    generalize decide (oppT s t) = bo at *
    generalize topT s = ts at *
    generalize topT t = tt at *
    generalize canT (cT 1) = ns at *
    generalize canT s = la at *
    generalize canT t = lb at *
    go_enter Tryd.func64, Tryd.ntmps64
    go_wp2_with fail
    refine (HT1.out).mono ?_
    rintro r w1 ⟨rfl, rfl⟩
    go_wp2_with fail
    refine (HT2.out).mono ?_
    rintro r w1 ⟨rfl, rfl⟩
    go_wp2_with fail
    refine (CE.out).mono ?_
    rintro r w1 ⟨rfl, hb1⟩
    have HB1 := Lib.hid hb1
    clear hb1
    go_wp2_with fail
    refine (CO.out w1 HB1.out).mono ?_
    rintro r w2 ⟨rfl, hb2⟩
    have HB2 := Lib.hid (HB1.out.trans (hb2.mono HB1.out.size))
    clear hb2
    go_wp2_with fail
    refine (HK.out w2 HB2.out).mono ?_
    rintro r wz ⟨A', c', rfl, ho, hb⟩
    have HO := Lib.hid ho
    have HBz := Lib.hid (HB2.out.trans (hb.mono HB2.out.size))
    clear ho hb
    go_wp2
    go_ret
    exact ⟨A', c', rfl, HO.out, HBz.out⟩
  · by_cases ht1 : topT t = 1
    · have HR : Hid (oL (sBoolO 7 s t) = canT (cT 1)) := Lib.hid (by simp [sBoolO, oL, hs2, ht1])
      rw [HR.out]
      have HK := Lib.hid (fun (W : World) (_ : Below w.heap.size w W) => rTrue_own8 W)
      have es2 : (topT s == 2) = false := by simpa using hs2
      have fs2 : (topT s != 2) = true := by simpa using hs2
      have et1 : (topT t == 1) = true := by simpa using ht1
      have ft1 : (topT t != 1) = false := by simpa using ht1
      have HT1 := Lib.hid (top_any (canT s) A (canT s).length ca w (Reads.of_own HA.out) (canT_ne s) (by unfold maxLen; omega))
      rw [topF_can hs] at HT1
      have HT2 := Lib.hid (top_any (canT t) B (canT t).length cb w (Reads.of_own HB.out) (canT_ne t) (by unfold maxLen; omega))
      rw [topF_can ht] at HT2
      have CE := Lib.hid (rSame_any (canT s) (canT t) A B (canT s).length (canT t).length ca cb w (Reads.of_own HA.out) (Reads.of_own HB.out) (by unfold maxLen; omega) (by unfold maxLen; omega))
      rw [same_can8 hs ht (by omega) (by omega)] at CE
      have CO := Lib.hid (fun (W : World) (h : Below w.heap.size w W) => rOpposed_any s t hs ht ls lt A B ca cb W (((Reads.of_own HA.out).below h).more h.size) (((Reads.of_own HB.out).below h).more h.size))
      clear HR hs2 ht1 hs ht
      generalize decide (s = t) = bs at *
      generalize decide (oppT s t) = bo at *
      generalize topT s = ts at *
      generalize topT t = tt at *
      generalize canT (cT 1) = ns at *
      generalize canT s = la at *
      generalize canT t = lb at *
      go_enter Tryd.func64, Tryd.ntmps64
      go_wp2_with fail
      refine (HT1.out).mono ?_
      rintro r w1 ⟨rfl, rfl⟩
      go_wp2_with fail
      refine (HT2.out).mono ?_
      rintro r w1 ⟨rfl, rfl⟩
      go_wp2_with fail
      refine (CE.out).mono ?_
      rintro r w1 ⟨rfl, hb1⟩
      have HB1 := Lib.hid hb1
      clear hb1
      go_wp2_with fail
      refine (CO.out w1 HB1.out).mono ?_
      rintro r w2 ⟨rfl, hb2⟩
      have HB2 := Lib.hid (HB1.out.trans (hb2.mono HB1.out.size))
      clear hb2
      go_wp2_with fail
      refine (HK.out w2 HB2.out).mono ?_
      rintro r wz ⟨A', c', rfl, ho, hb⟩
      have HO := Lib.hid ho
      have HBz := Lib.hid (HB2.out.trans (hb.mono HB2.out.size))
      clear ho hb
      go_wp2
      go_ret
      exact ⟨A', c', rfl, HO.out, HBz.out⟩
    · by_cases hsame : s = t
      · have HR : Hid (oL (sBoolO 7 s t) = canT (cT 1)) := Lib.hid (by subst hsame; simp [sBoolO, oL, hs2, ht1])
        rw [HR.out]
        have HK := Lib.hid (fun (W : World) (_ : Below w.heap.size w W) => rTrue_own8 W)
        have es2 : (topT s == 2) = false := by simpa using hs2
        have fs2 : (topT s != 2) = true := by simpa using hs2
        have et1 : (topT t == 1) = false := by simpa using ht1
        have ft1 : (topT t != 1) = true := by simpa using ht1
        have HT1 := Lib.hid (top_any (canT s) A (canT s).length ca w (Reads.of_own HA.out) (canT_ne s) (by unfold maxLen; omega))
        rw [topF_can hs] at HT1
        have HT2 := Lib.hid (top_any (canT t) B (canT t).length cb w (Reads.of_own HB.out) (canT_ne t) (by unfold maxLen; omega))
        rw [topF_can ht] at HT2
        have CE := Lib.hid (rSame_any (canT s) (canT t) A B (canT s).length (canT t).length ca cb w (Reads.of_own HA.out) (Reads.of_own HB.out) (by unfold maxLen; omega) (by unfold maxLen; omega))
        rw [same_can8 hs ht (by omega) (by omega)] at CE
        have CO := Lib.hid (fun (W : World) (h : Below w.heap.size w W) => rOpposed_any s t hs ht ls lt A B ca cb W (((Reads.of_own HA.out).below h).more h.size) (((Reads.of_own HB.out).below h).more h.size))
        rw [decide_eq_true hsame] at CE
        clear HR hs2 ht1 hsame hs ht
        generalize decide (s = t) = bs at *
        generalize decide (oppT s t) = bo at *
        generalize topT s = ts at *
        generalize topT t = tt at *
        generalize canT (cT 1) = ns at *
        generalize canT s = la at *
        generalize canT t = lb at *
        go_enter Tryd.func64, Tryd.ntmps64
        go_wp2_with fail
        refine (HT1.out).mono ?_
        rintro r w1 ⟨rfl, rfl⟩
        go_wp2_with fail
        refine (HT2.out).mono ?_
        rintro r w1 ⟨rfl, rfl⟩
        go_wp2_with fail
        refine (CE.out).mono ?_
        rintro r w1 ⟨rfl, hb1⟩
        have HB1 := Lib.hid hb1
        clear hb1
        go_wp2_with fail
        refine (CO.out w1 HB1.out).mono ?_
        rintro r w2 ⟨rfl, hb2⟩
        have HB2 := Lib.hid (HB1.out.trans (hb2.mono HB1.out.size))
        clear hb2
        go_wp2_with fail
        refine (HK.out w2 HB2.out).mono ?_
        rintro r wz ⟨A', c', rfl, ho, hb⟩
        have HO := Lib.hid ho
        have HBz := Lib.hid (HB2.out.trans (hb.mono HB2.out.size))
        clear ho hb
        go_wp2
        go_ret
        exact ⟨A', c', rfl, HO.out, HBz.out⟩
      · by_cases hs1 : topT s = 1
        · have HR : Hid (oL (sBoolO 7 s t) = canT t) := Lib.hid (by simp [sBoolO, oL, hs1, ht1, hsame])
          rw [HR.out]
          have es2 : (topT s == 2) = false := by simpa using hs2
          have fs2 : (topT s != 2) = true := by simpa using hs2
          have es1 : (topT s == 1) = true := by simpa using hs1
          have fs1 : (topT s != 1) = false := by simpa using hs1
          have et1 : (topT t == 1) = false := by simpa using ht1
          have ft1 : (topT t != 1) = true := by simpa using ht1
          have HT1 := Lib.hid (top_any (canT s) A (canT s).length ca w (Reads.of_own HA.out) (canT_ne s) (by unfold maxLen; omega))
          rw [topF_can hs] at HT1
          have HT2 := Lib.hid (top_any (canT t) B (canT t).length cb w (Reads.of_own HB.out) (canT_ne t) (by unfold maxLen; omega))
          rw [topF_can ht] at HT2
          have CE := Lib.hid (rSame_any (canT s) (canT t) A B (canT s).length (canT t).length ca cb w (Reads.of_own HA.out) (Reads.of_own HB.out) (by unfold maxLen; omega) (by unfold maxLen; omega))
          rw [same_can8 hs ht (by omega) (by omega)] at CE
          have CO := Lib.hid (fun (W : World) (h : Below w.heap.size w W) => rOpposed_any s t hs ht ls lt A B ca cb W (((Reads.of_own HA.out).below h).more h.size) (((Reads.of_own HB.out).below h).more h.size))
          rw [decide_eq_false hsame] at CE
          clear HR hs2 hs1 ht1 hsame hs ht
          generalize decide (s = t) = bs at *
          generalize decide (oppT s t) = bo at *
          generalize topT s = ts at *
          generalize topT t = tt at *
          generalize canT s = la at *
          generalize canT t = lb at *
          go_enter Tryd.func64, Tryd.ntmps64
          go_wp2_with fail
          refine (HT1.out).mono ?_
          rintro r w1 ⟨rfl, rfl⟩
          go_wp2_with fail
          refine (HT2.out).mono ?_
          rintro r w1 ⟨rfl, rfl⟩
          go_wp2_with fail
          refine (CE.out).mono ?_
          rintro r w1 ⟨rfl, hb1⟩
          have HB1 := Lib.hid hb1
          clear hb1
          go_wp2_with fail
          refine (CO.out w1 HB1.out).mono ?_
          rintro r w2 ⟨rfl, hb2⟩
          have HB2 := Lib.hid (HB1.out.trans (hb2.mono HB1.out.size))
          clear hb2
          go_wp2
          go_ret
          exact ⟨B, cb, rfl, own_keep1 HB.out (fun g hg => HB2.out.block g (HB.out.lt g hg).2), HB2.out⟩
        · by_cases ht2 : topT t = 2
          · have HR : Hid (oL (sBoolO 7 s t) = canT (negT s)) := Lib.hid (by simp [sBoolO, oL, hs2, hs1, ht2, hsame])
            rw [HR.out]
            have HK := Lib.hid (fun (W : World) (h : Below w.heap.size w W) => rOpp_any (canT s) A (canT s).length ca W (Reads.of_own (own_keep1 HA.out (fun g hg => h.block g (HA.out.lt g hg).2))) (by unfold maxLen; omega))
            rw [neg_can8 hs ls] at HK
            have es2 : (topT s == 2) = false := by simpa using hs2
            have fs2 : (topT s != 2) = true := by simpa using hs2
            have es1 : (topT s == 1) = false := by simpa using hs1
            have fs1 : (topT s != 1) = true := by simpa using hs1
            have et1 : (topT t == 1) = false := by simpa using ht1
            have ft1 : (topT t != 1) = true := by simpa using ht1
            have et2 : (topT t == 2) = true := by simpa using ht2
            have ft2 : (topT t != 2) = false := by simpa using ht2
            have HT1 := Lib.hid (top_any (canT s) A (canT s).length ca w (Reads.of_own HA.out) (canT_ne s) (by unfold maxLen; omega))
            rw [topF_can hs] at HT1
            have HT2 := Lib.hid (top_any (canT t) B (canT t).length cb w (Reads.of_own HB.out) (canT_ne t) (by unfold maxLen; omega))
            rw [topF_can ht] at HT2
            have CE := Lib.hid (rSame_any (canT s) (canT t) A B (canT s).length (canT t).length ca cb w (Reads.of_own HA.out) (Reads.of_own HB.out) (by unfold maxLen; omega) (by unfold maxLen; omega))
            rw [same_can8 hs ht (by omega) (by omega)] at CE
            have CO := Lib.hid (fun (W : World) (h : Below w.heap.size w W) => rOpposed_any s t hs ht ls lt A B ca cb W (((Reads.of_own HA.out).below h).more h.size) (((Reads.of_own HB.out).below h).more h.size))
            rw [decide_eq_false hsame] at CE
            clear HR hs2 hs1 ht1 ht2 hsame hs ht
            generalize decide (s = t) = bs at *
            generalize decide (oppT s t) = bo at *
            generalize topT s = ts at *
            generalize topT t = tt at *
            generalize canT (negT s) = ns at *
            generalize canT s = la at *
            generalize canT t = lb at *
            go_enter Tryd.func64, Tryd.ntmps64
            go_wp2_with fail
            refine (HT1.out).mono ?_
            rintro r w1 ⟨rfl, rfl⟩
            go_wp2_with fail
            refine (HT2.out).mono ?_
            rintro r w1 ⟨rfl, rfl⟩
            go_wp2_with fail
            refine (CE.out).mono ?_
            rintro r w1 ⟨rfl, hb1⟩
            have HB1 := Lib.hid hb1
            clear hb1
            go_wp2_with fail
            refine (CO.out w1 HB1.out).mono ?_
            rintro r w2 ⟨rfl, hb2⟩
            have HB2 := Lib.hid (HB1.out.trans (hb2.mono HB1.out.size))
            clear hb2
            go_wp2_with fail
            refine (HK.out w2 HB2.out).mono ?_
            rintro r wz ⟨A', c', rfl, ho, hb⟩
            have HO := Lib.hid ho
            have HBz := Lib.hid (HB2.out.trans (hb.mono HB2.out.size))
            clear ho hb
            go_wp2
            go_ret
            exact ⟨A', c', rfl, HO.out, HBz.out⟩
          · have HR : Hid (oL (sBoolO 7 s t) = []) := Lib.hid (by simp [sBoolO, oL, hs2, hs1, ht1, ht2, hsame])
            rw [HR.out]
            have es2 : (topT s == 2) = false := by simpa using hs2
            have fs2 : (topT s != 2) = true := by simpa using hs2
            have es1 : (topT s == 1) = false := by simpa using hs1
            have fs1 : (topT s != 1) = true := by simpa using hs1
            have et1 : (topT t == 1) = false := by simpa using ht1
            have ft1 : (topT t != 1) = true := by simpa using ht1
            have et2 : (topT t == 2) = false := by simpa using ht2
            have ft2 : (topT t != 2) = true := by simpa using ht2
            have HT1 := Lib.hid (top_any (canT s) A (canT s).length ca w (Reads.of_own HA.out) (canT_ne s) (by unfold maxLen; omega))
            rw [topF_can hs] at HT1
            have HT2 := Lib.hid (top_any (canT t) B (canT t).length cb w (Reads.of_own HB.out) (canT_ne t) (by unfold maxLen; omega))
            rw [topF_can ht] at HT2
            have CE := Lib.hid (rSame_any (canT s) (canT t) A B (canT s).length (canT t).length ca cb w (Reads.of_own HA.out) (Reads.of_own HB.out) (by unfold maxLen; omega) (by unfold maxLen; omega))
            rw [same_can8 hs ht (by omega) (by omega)] at CE
            have CO := Lib.hid (fun (W : World) (h : Below w.heap.size w W) => rOpposed_any s t hs ht ls lt A B ca cb W (((Reads.of_own HA.out).below h).more h.size) (((Reads.of_own HB.out).below h).more h.size))
            rw [decide_eq_false hsame] at CE
            clear HR hs2 hs1 ht1 ht2 hsame hs ht
            generalize decide (s = t) = bs at *
            generalize decide (oppT s t) = bo at *
            generalize topT s = ts at *
            generalize topT t = tt at *
            generalize canT s = la at *
            generalize canT t = lb at *
            go_enter Tryd.func64, Tryd.ntmps64
            go_wp2_with fail
            refine (HT1.out).mono ?_
            rintro r w1 ⟨rfl, rfl⟩
            go_wp2_with fail
            refine (HT2.out).mono ?_
            rintro r w1 ⟨rfl, rfl⟩
            go_wp2_with fail
            refine (CE.out).mono ?_
            rintro r w1 ⟨rfl, hb1⟩
            have HB1 := Lib.hid hb1
            clear hb1
            go_wp2_with fail
            refine (CO.out w1 HB1.out).mono ?_
            rintro r w2 ⟨rfl, hb2⟩
            have HB2 := Lib.hid (HB1.out.trans (hb2.mono HB1.out.size))
            clear hb2
            go_wp2
            go_ret
            exact ⟨none, 0, rfl, World.ownsRow_nil _ _ _ _, HB2.out⟩
set_option maxHeartbeats 8000000 in
theorem sBool8_any (s t : Tr) (hs : AllOk s) (ht : AllOk t) (ls : (canT s).length ≤ 199) (lt : (canT t).length ≤ 199) (A B : Option Addr) (ca cb : Nat) (w : World) (hA : w.ownsRow 0 62 6 (.slice A (canT s).length ca) (canT s).length (nds (canT s))) (hB : w.ownsRow 0 62 6 (.slice B (canT t).length cb) (canT t).length (nds (canT t))) :
    Calls Tryd.prog 64 #[.int .i64 8, .slice A (canT s).length ca, .slice B (canT t).length cb] w fun e w' => ∃ A' c', e = .returned (.slice A' (oL (sBoolO 8 s t)).length c') ∧ w'.ownsRow 0 62 6 (.slice A' (oL (sBoolO 8 s t)).length c') (oL (sBoolO 8 s t)).length (nds (oL (sBoolO 8 s t))) ∧ Below w.heap.size w w' := by
  have HA := Lib.hid hA
  have HB := Lib.hid hB
  clear hA hB
  have HIF := Lib.hid (fun (W : World) (h : Below w.heap.size w W) => rIff8_any s t hs ht ls lt A B ca cb W (own_keep1 HA.out (fun g hg => h.block g (HA.out.lt g hg).2)) (own_keep1 HB.out (fun g hg => h.block g (HB.out.lt g hg).2)))
  have HT1 := Lib.hid (top_any (canT s) A (canT s).length ca w (Reads.of_own HA.out) (canT_ne s) (by unfold maxLen; omega))
  rw [topF_can hs] at HT1
  have HT2 := Lib.hid (top_any (canT t) B (canT t).length cb w (Reads.of_own HB.out) (canT_ne t) (by unfold maxLen; omega))
  rw [topF_can ht] at HT2
  have CE := Lib.hid (rSame_any (canT s) (canT t) A B (canT s).length (canT t).length ca cb w (Reads.of_own HA.out) (Reads.of_own HB.out) (by unfold maxLen; omega) (by unfold maxLen; omega))
  rw [same_can8 hs ht (by omega) (by omega)] at CE
  have CO := Lib.hid (fun (W : World) (h : Below w.heap.size w W) => rOpposed_any s t hs ht ls lt A B ca cb W (((Reads.of_own HA.out).below h).more h.size) (((Reads.of_own HB.out).below h).more h.size))
  generalize oL (sBoolO 8 s t) = rs at *
  clear hs ht
  generalize decide (s = t) = bs at *
  generalize decide (oppT s t) = bo at *
  generalize topT s = ts at *
  generalize topT t = tt at *
  generalize canT s = la at *
  generalize canT t = lb at *
  go_enter Tryd.func64, Tryd.ntmps64
  go_wp2_with fail
  refine (HT1.out).mono ?_
  rintro r w1 ⟨rfl, rfl⟩
  go_wp2_with fail
  refine (HT2.out).mono ?_
  rintro r w1 ⟨rfl, rfl⟩
  go_wp2_with fail
  refine (CE.out).mono ?_
  rintro r w1 ⟨rfl, hb1⟩
  have HB1 := Lib.hid hb1
  clear hb1
  go_wp2_with fail
  refine (CO.out w1 HB1.out).mono ?_
  rintro r w2 ⟨rfl, hb2⟩
  have HB2 := Lib.hid (HB1.out.trans (hb2.mono HB1.out.size))
  clear hb2
  go_wp2_with fail
  refine (HIF.out w2 HB2.out).mono ?_
  rintro r wz ⟨A', c', rfl, ho, hb⟩
  have HO := Lib.hid ho
  have HBz := Lib.hid (HB2.out.trans (hb.mono HB2.out.size))
  clear ho hb
  go_wp2
  go_ret
  exact ⟨A', c', rfl, HO.out, HBz.out⟩
end Go.Proofs.YtkkkomkljpolbaaDoor
