/- Layer 9: awake. -/
import Derived.Test.YtcdmchaehafijaaDoorNIm
import Derived.Test.YtcdmchaehafijaaDoorNRe
namespace Go.Proofs.YtcdmchaehafijaaDoor
open Go.RowKit Go.Proofs.Ws Go.Maps
set_option maxRecDepth 100000
def eQK9 : List Nd := [⟨3, 1, 0, 0, 0, 0⟩, ⟨3, 0, 0, 0, 0, 0⟩, ⟨9, 0, 0, 0, 1, 0⟩, ⟨7, 0, 0, 0, 0, 2⟩]
theorem bd9_0 : buildF ⟨3, 0, 0, 0, 0, 0⟩ [] = eP9 := by decide +kernel
theorem bd9_1 : buildF ⟨3, 1, 0, 0, 0, 0⟩ [] = eQ9 := by decide +kernel
theorem bd9_2 : buildF ⟨9, 0, 0, 0, 0, 0⟩ [eP9] = eK9 := by decide +kernel
theorem bd9_3 : buildF ⟨7, 0, 0, 0, 0, 0⟩ [eP9, eQ9] = eI9 := by decide +kernel
theorem bd9_4 : buildF ⟨7, 0, 0, 0, 0, 0⟩ [eQ9, eK9] = eQK9 := by decide +kernel
theorem bd9_6 : buildF ⟨7, 0, 0, 0, 0, 0⟩ [eK9, eK9] = eKK9 := by decide +kernel
theorem bd9_7 : buildF ⟨7, 0, 0, 0, 0, 0⟩ [eK9, eP9] = eKP9 := by decide +kernel
def eB9 : List Nd := buildF ⟨5, 0, 0, 0, 0, 0⟩ [eK9, eQK9]
theorem ev9_6 : fErr eB9 = 0 ∧ atomsG eB9 = [eK9, eQ9] := by decide +kernel
set_option maxHeartbeats 16000000 in
theorem awake9_any (w : World) (hE : EnvB w w.heap.size) : Calls Tryd.prog 5 #[] w fun e w' => e = .returned (.bool true) ∧ Below w.heap.size w w' := by
  have HE := Lib.hid hE
  clear hE
  have HB0 : Hid (Below w.heap.size w w) := Lib.hid (Below.refl _ _)
  go_enter Tryd.func5, Tryd.ntmps5
  go_wp2_with fail
  refine (pFact_any 0 w).mono ?_
  rintro e w1 ⟨A1, c1, rfl, hr, hb⟩
  rw [bd9_0] at hr
  rw [bd9_0]
  have RP := Lib.hid hr
  clear hr
  have HB1 := Lib.hid (HB0.out.trans (hb.mono HB0.out.size))
  clear hb
  go_wp2_with fail
  refine (pFact_any 1 w1).mono ?_
  rintro e w2 ⟨A2, c2, rfl, hr, hb⟩
  rw [bd9_1] at hr
  rw [bd9_1]
  have RQ := Lib.hid hr
  clear hr
  have RP := Lib.hid (up8 RP.out hb)
  have HB2 := Lib.hid (HB1.out.trans (hb.mono HB1.out.size))
  clear hb
  go_wp2_with fail
  refine (pKnow_any 0 eP9 _ _ _ w2 RP.out (by unfold maxLen; decide)).mono ?_
  rintro e w3 ⟨A3, c3, rfl, hr, hb⟩
  rw [bd9_2] at hr
  rw [bd9_2]
  have RK := Lib.hid hr
  clear hr
  have RP := Lib.hid (up8 RP.out hb)
  have RQ := Lib.hid (up8 RQ.out hb)
  have HB3 := Lib.hid (HB2.out.trans (hb.mono HB2.out.size))
  clear hb
  go_wp2_with fail
  refine (pImp_any eP9 _ _ _ eQ9 _ _ _ w3 RP.out (by unfold maxLen; decide) RQ.out (by unfold maxLen; decide)).mono ?_
  rintro e w4 ⟨A4, c4, rfl, hr, hb⟩
  rw [bd9_3] at hr
  rw [bd9_3]
  have RI := Lib.hid hr
  clear hr
  have RP := Lib.hid (up8 RP.out hb)
  have RQ := Lib.hid (up8 RQ.out hb)
  have RK := Lib.hid (up8 RK.out hb)
  have HB4 := Lib.hid (HB3.out.trans (hb.mono HB3.out.size))
  clear hb
  go_wp2_with fail
  refine (pTable_any eI9 2 _ _ _ w4 ((HE.out.below HB4.out).up HB4.out.size) RI.out (by unfold maxLen; decide)).mono ?_
  rintro e w5 ⟨rfl, hb⟩
  rw [ev9_2.1, ev9_2.2.1]
  have RP := Lib.hid (up8 RP.out hb)
  have RQ := Lib.hid (up8 RQ.out hb)
  have RK := Lib.hid (up8 RK.out hb)
  have RI := Lib.hid (up8 RI.out hb)
  have HB5 := Lib.hid (HB4.out.trans (hb.mono HB4.out.size))
  clear hb
  go_wp2_with fail
  refine (pImp_any eP9 _ _ _ eQ9 _ _ _ w5 RP.out (by unfold maxLen; decide) RQ.out (by unfold maxLen; decide)).mono ?_
  rintro e w6 ⟨A6, c6, rfl, hr, hb⟩
  rw [bd9_3] at hr
  rw [bd9_3]
  have RI2 := Lib.hid hr
  clear hr
  have RP := Lib.hid (up8 RP.out hb)
  have RQ := Lib.hid (up8 RQ.out hb)
  have RK := Lib.hid (up8 RK.out hb)
  have HB6 := Lib.hid (HB5.out.trans (hb.mono HB5.out.size))
  clear hb
  go_wp2_with fail
  refine (pTable_any eI9 3 _ _ _ w6 ((HE.out.below HB6.out).up HB6.out.size) RI2.out (by unfold maxLen; decide)).mono ?_
  rintro e w7 ⟨rfl, hb⟩
  rw [ev9_2.2.2.1, ev9_2.2.2.2]
  have RP := Lib.hid (up8 RP.out hb)
  have RQ := Lib.hid (up8 RQ.out hb)
  have RK := Lib.hid (up8 RK.out hb)
  have RI2 := Lib.hid (up8 RI2.out hb)
  have HB7 := Lib.hid (HB6.out.trans (hb.mono HB6.out.size))
  clear hb
  go_wp2_with fail
  refine (pImp_any eQ9 _ _ _ eK9 _ _ _ w7 RQ.out (by unfold maxLen; decide) RK.out (by unfold maxLen; decide)).mono ?_
  rintro e w8 ⟨A8, c8, rfl, hr, hb⟩
  rw [bd9_4] at hr
  rw [bd9_4]
  have RQK := Lib.hid hr
  clear hr
  have RP := Lib.hid (up8 RP.out hb)
  have RQ := Lib.hid (up8 RQ.out hb)
  have RK := Lib.hid (up8 RK.out hb)
  have HB8 := Lib.hid (HB7.out.trans (hb.mono HB7.out.size))
  clear hb
  go_wp2_with fail
  refine (pAnd_any eK9 _ _ _ eQK9 _ _ _ w8 RK.out (by unfold maxLen; decide) RQK.out (by unfold maxLen; decide)).mono ?_
  rintro e w9 ⟨A9, c9, rfl, hr, hb⟩
  rw [show buildF ⟨5, 0, 0, 0, 0, 0⟩ [eK9, eQK9] = eB9 from rfl] at hr
  rw [show buildF ⟨5, 0, 0, 0, 0, 0⟩ [eK9, eQK9] = eB9 from rfl]
  have RB := Lib.hid hr
  clear hr
  have RP := Lib.hid (up8 RP.out hb)
  have RQ := Lib.hid (up8 RQ.out hb)
  have RK := Lib.hid (up8 RK.out hb)
  have RQK := Lib.hid (up8 RQK.out hb)
  have HB9 := Lib.hid (HB8.out.trans (hb.mono HB8.out.size))
  clear hb
  go_wp2_with fail
  refine (pAtoms_any eB9 _ _ _ w9 RB.out (by unfold maxLen; decide +kernel)).mono ?_
  rintro e w10 ⟨v, rfl, hll, hb⟩
  rw [ev9_6.1, if_pos rfl, ev9_6.2] at hll
  rw [ev9_6.1]
  have HLL := Lib.hid hll
  clear hll
  have RP := Lib.hid (up8 RP.out hb)
  have RQ := Lib.hid (up8 RQ.out hb)
  have RK := Lib.hid (up8 RK.out hb)
  have RB := Lib.hid (up8 RB.out hb)
  have HB10 := Lib.hid (HB9.out.trans (hb.mono HB9.out.size))
  clear hb
  go_wp2_with fail
  refine (pImp_any eK9 _ _ _ eK9 _ _ _ w10 RK.out (by unfold maxLen; decide) RK.out (by unfold maxLen; decide)).mono ?_
  rintro e w11 ⟨A11, c11, rfl, hr, hb⟩
  rw [bd9_6] at hr
  rw [bd9_6]
  have RKK := Lib.hid hr
  clear hr
  have RP := Lib.hid (up8 RP.out hb)
  have RQ := Lib.hid (up8 RQ.out hb)
  have RK := Lib.hid (up8 RK.out hb)
  have HLL := Lib.hid (HLL.out.below hb)
  have HB11 := Lib.hid (HB10.out.trans (hb.mono HB10.out.size))
  clear hb
  go_wp2_with fail
  refine (pTaut_any eKK9 _ _ _ w11 ((HE.out.below HB11.out).up HB11.out.size) RKK.out (by unfold maxLen; decide)).mono ?_
  rintro e w12 ⟨rfl, hb⟩
  rw [ev9_4.1, ev9_4.2.1]
  have RP := Lib.hid (up8 RP.out hb)
  have RQ := Lib.hid (up8 RQ.out hb)
  have RK := Lib.hid (up8 RK.out hb)
  have HLL := Lib.hid (HLL.out.below hb)
  have RKK := Lib.hid (up8 RKK.out hb)
  have HB12 := Lib.hid (HB11.out.trans (hb.mono HB11.out.size))
  clear hb
  go_wp2_with fail
  refine (pImp_any eK9 _ _ _ eP9 _ _ _ w12 RK.out (by unfold maxLen; decide) RP.out (by unfold maxLen; decide)).mono ?_
  rintro e w13 ⟨A13, c13, rfl, hr, hb⟩
  rw [bd9_7] at hr
  rw [bd9_7]
  have RKP := Lib.hid hr
  clear hr
  have RP := Lib.hid (up8 RP.out hb)
  have RQ := Lib.hid (up8 RQ.out hb)
  have RK := Lib.hid (up8 RK.out hb)
  have HLL := Lib.hid (HLL.out.below hb)
  have HB13 := Lib.hid (HB12.out.trans (hb.mono HB12.out.size))
  clear hb
  go_wp2_with fail
  refine (pTaut_any eKP9 _ _ _ w13 ((HE.out.below HB13.out).up HB13.out.size) RKP.out (by unfold maxLen; decide)).mono ?_
  rintro e w14 ⟨rfl, hb⟩
  rw [ev9_4.2.2.1, ev9_4.2.2.2]
  have RQ := Lib.hid (up8 RQ.out hb)
  have RK := Lib.hid (up8 RK.out hb)
  have HLL := Lib.hid (HLL.out.below hb)
  have RKP := Lib.hid (up8 RKP.out hb)
  have HB14 := Lib.hid (HB13.out.trans (hb.mono HB13.out.size))
  clear hb
  go_wp2_with fail
  refine (pImpl_any 13 (by decide) 2 w14).mono ?_
  rintro e w15 ⟨AC1, cC1, lC1, rfl, hr, _, hz, hb⟩
  obtain ⟨hs, hm⟩ := hz ev9_5.1
  have el : lC1 = [(1, 0), (2, 2)] := (primes_are (n := 2) hs hm).trans ev9_0
  subst el
  rw [ev9_5.1]
  have RC1 := Lib.hid (Reads.of_own hr)
  clear hr hz hs hm
  have RQ := Lib.hid (up8 RQ.out hb)
  have RK := Lib.hid (up8 RK.out hb)
  have HLL := Lib.hid (HLL.out.below hb)
  have HB15 := Lib.hid (HB14.out.trans (hb.mono HB14.out.size))
  clear hb
  go_wp2_with fail
  refine (pImpl_any 15 (by decide) 2 w15).mono ?_
  rintro e w16 ⟨AC2, cC2, lC2, rfl, hr, _, hz, hb⟩
  obtain ⟨hs, hm⟩ := hz ev9_5.2
  have el : lC2 = [(0, 0)] := (primes_are (n := 2) hs hm).trans ev9_1
  subst el
  rw [ev9_5.2]
  have RC2 := Lib.hid (Reads.of_own hr)
  clear hr hz hs hm
  have RQ := Lib.hid (up8 RQ.out hb)
  have RK := Lib.hid (up8 RK.out hb)
  have HLL := Lib.hid (HLL.out.below hb)
  have RC1 := Lib.hid (up8 RC1.out hb)
  have HB16 := Lib.hid (HB15.out.trans (hb.mono HB15.out.size))
  clear hb
  obtain ⟨Av, cv, rfl, hit⟩ := HLL.out.item
  have HIT := Lib.hid hit
  clear hit
  go_wp2_with fail
  have bS : Below w16.heap.size w16 (w16.alloc (.cells #[.slice A3 eK9.length c3, .slice A2 eQ9.length c2] 23)) := (Below.refl _ _).alloc (Nat.le_refl _) _
  have hh := heap_alloc_new w16 (.cells #[.slice A3 eK9.length c3, .slice A2 eQ9.length c2] 23)
  generalize w16.alloc (.cells #[.slice A3 eK9.length c3, .slice A2 eQ9.length c2] 23) = w17 at *
  refine (sameLists9_rd [eK9, eQ9] Av (some ⟨w16.heap.size, 0, none⟩) cv 2 w17 (fun k hk => by
    obtain ⟨ad, Aj, cj, h1, h2, h3⟩ := HIT.out k hk
    exact ⟨ad, Aj, cj, h1, (bS.cell (p := ad.add k) (World.block_lt_of_cell? w16 _ h2)).trans h2, up8 h3 bS⟩) (fun k hk => by
    match k, hk with
    | 0, _ => exact ⟨_, A3, c3, rfl, by rw [addr_zero]; exact Lib.cell_of_heap hh 0, up8 RK.out bS⟩
    | 1, _ => exact ⟨_, A2, c2, rfl, by rw [addr_zero]; exact Lib.cell_of_heap hh 1, up8 RQ.out bS⟩
    | k + 2, h => exact absurd h (by simp)) (by decide) (fun k hk => by
    match k, hk with
    | 0, _ => unfold maxLen; decide
    | 1, _ => unfold maxLen; decide
    | k + 2, h => exact absurd h (by simp))).mono ?_
  rintro e w18 ⟨rfl, hb⟩
  have RC1 := Lib.hid (up8 (up8 RC1.out bS) hb)
  have RC2 := Lib.hid (up8 (up8 RC2.out bS) hb)
  have HB18 := Lib.hid (HB16.out.trans ((bS.mono HB16.out.size).trans (hb.mono (Nat.le_trans HB16.out.size bS.size))))
  clear hb bS hh
  go_wp2_with fail
  have bS : Below w18.heap.size w18 (w18.alloc (.cells #[.int .i64 1, .int .i64 0, .int .i64 2, .int .i64 2] 51)) := (Below.refl _ _).alloc (Nat.le_refl _) _
  have rS : Reads (w18.alloc (.cells #[.int .i64 1, .int .i64 0, .int .i64 2, .int .i64 2] 51)) (w18.alloc (.cells #[.int .i64 1, .int .i64 0, .int .i64 2, .int .i64 2] 51)).heap.size 2 (some ⟨w18.heap.size, 0, none⟩) 2 (cbs [(1, 0), (2, 2)]) := ⟨rfl, fun _ => ⟨_, rfl, by simp, fun j u hj => by
    have hh := heap_alloc_new w18 (.cells #[.int .i64 1, .int .i64 0, .int .i64 2, .int .i64 2] 51)
    rw [addr_zero]
    show (w18.alloc _).cell? _ = _
    rw [Lib.cell_of_heap hh, ← hj]
    simp [cbs]⟩⟩
  generalize w18.alloc (.cells #[.int .i64 1, .int .i64 0, .int .i64 2, .int .i64 2] 51) = w19 at *
  refine (sameCubes_any [(1, 0), (2, 2)] [(1, 0), (2, 2)] _ _ _ _ _ _ w19 (up8 RC1.out bS) rS (by decide) (by decide)).mono ?_
  rintro e w20 ⟨rfl, hb⟩
  rw [decide_eq_true (rfl : [((1 : Nat), (0 : Nat)), (2, 2)] = [(1, 0), (2, 2)])]
  have RC2 := Lib.hid (up8 (up8 RC2.out bS) hb)
  have HB20 := Lib.hid (HB18.out.trans ((bS.mono HB18.out.size).trans (hb.mono (Nat.le_trans HB18.out.size bS.size))))
  clear hb bS rS
  go_wp2_with fail
  have bS : Below w20.heap.size w20 (w20.alloc (.cells #[.int .i64 0, .int .i64 0] 51)) := (Below.refl _ _).alloc (Nat.le_refl _) _
  have rS : Reads (w20.alloc (.cells #[.int .i64 0, .int .i64 0] 51)) (w20.alloc (.cells #[.int .i64 0, .int .i64 0] 51)).heap.size 2 (some ⟨w20.heap.size, 0, none⟩) 1 (cbs [(0, 0)]) := ⟨rfl, fun _ => ⟨_, rfl, by simp, fun j u hj => by
    have hh := heap_alloc_new w20 (.cells #[.int .i64 0, .int .i64 0] 51)
    rw [addr_zero]
    show (w20.alloc _).cell? _ = _
    rw [Lib.cell_of_heap hh, ← hj]
    simp [cbs]⟩⟩
  generalize w20.alloc (.cells #[.int .i64 0, .int .i64 0] 51) = w21 at *
  refine (sameCubes_any [(0, 0)] [(0, 0)] _ _ _ _ _ _ w21 (up8 RC2.out bS) rS (by decide) (by decide)).mono ?_
  rintro e w22 ⟨rfl, hb⟩
  rw [decide_eq_true (rfl : [((0 : Nat), (0 : Nat))] = [(0, 0)])]
  have HB22 := Lib.hid (HB20.out.trans ((bS.mono HB20.out.size).trans (hb.mono (Nat.le_trans HB20.out.size bS.size))))
  clear hb bS rS
  go_wp2
  go_ret
  exact ⟨rfl, HB22.out⟩
end Go.Proofs.YtcdmchaehafijaaDoor
