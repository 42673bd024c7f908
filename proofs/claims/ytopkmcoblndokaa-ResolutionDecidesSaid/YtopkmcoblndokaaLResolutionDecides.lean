/- Layer 10: ResolutionDecides. -/
import Derived.Test.YtopkmcoblndokaaNRq
namespace Go.Proofs.Ytopkmcoblndokaa.resolutionDecides
open Go.ChangeShapes Go.WideShapes Go.ChangeAt Go.RowKit Go.Proofs.Ytopkmcoblndokaa Go.Proofs.Ws
set_option maxRecDepth 100000
theorem walk (n : Int) (l : List (List Int)) (A : Option Addr) (k cap : Nat) (w : World) (hR : ZsR w w.heap.size A k l) (hk : k ≤ maxLen) :
    Calls Try.prog 8 #[.int .i64 n, .slice A k cap] w fun e w' => e = .returned (.bool true) ∧ Below w.heap.size w w' := by
  have HB0 := Lib.hid (Below.refl w.heap.size w)
  have HAW : Hid (∀ W, Below w.heap.size w W → Calls Try.prog 11 #[] W fun e w' => e = .returned (.bool true) ∧ Below W.heap.size W w') := Lib.hid (fun W _ => awake_any W)
  have HFW : Hid (∀ W, Below w.heap.size w W → Calls Try.prog 17 #[.int .i64 n, .slice A k cap] W fun e w' => e = .returned (.bool (fewB n l)) ∧ W = w') := Lib.hid (fun W hb => xFew_any n l A k cap _ W (hR.below hb hb.size) hk)
  have HCK : Hid (∀ W, Below w.heap.size w W → Calls Try.prog 14 #[.int .i64 n, .slice A k cap] W fun e w' => e = .returned (.int .i64 (chkR n l)) ∧ W = w') := Lib.hid (fun W hb => xCheck_any n l A k cap _ W (hR.below hb hb.size) hk)
  have HSV : Hid (∀ W, Below w.heap.size w W → Calls Try.prog 22 #[.int .i64 n, .slice A k cap] W fun e w' => e = .returned (.tuple #[.int .i64 (slvV n l), .int .i64 (slvE n l)]) ∧ Below W.heap.size W w') := Lib.hid (fun W hb => xSolve_any n l A k cap W (hR.below hb hb.size) hk)
  have HRF : Hid (∀ W, Below w.heap.size w W → Calls Try.prog 30 #[.int .i64 n, .slice A k cap] W fun e w' => GivesR (reL n l) (reE n l) W e w') := Lib.hid (fun W hb => xRefute_any n l A k cap W (hR.below hb hb.size) hk)
  have HHO : Hid (∀ W, Below w.heap.size w W → Calls Try.prog 18 #[.int .i64 n, .slice A k cap, .int .i64 (slvV n l)] W fun e w' => e = .returned (.tuple #[.bool (holV n l (slvV n l)), .int .i64 (holE n l (slvV n l))]) ∧ Below W.heap.size W w') := Lib.hid (fun W hb => xHolds_any n l (slvV n l) A k cap W (hR.below hb hb.size) hk)
  have HVR : Hid (∀ W A2 c2, Below w.heap.size w W → LnsR W W.heap.size A2 (reL n l).length (reL n l) → Calls Try.prog 28 #[.int .i64 n, .slice A k cap, .slice A2 (reL n l).length c2] W fun e w' => e = .returned (.int .i64 (verE n l (reL n l))) ∧ Below W.heap.size W w') := Lib.hid (fun W A2 c2 hb h => xVerify_any n l (reL n l) A k cap A2 _ c2 W (hR.below hb hb.size) hk h (reL_len n l))
  clear hR hk
  cases hf : fewB n l with
  | false =>
    rw [hf] at HFW
    clear hf HCK HSV HRF HHO HVR
    go_enter Try.func8, Try.ntmps8
    go_wp2_with fail
    refine (HFW.out _ HB0.out).mono ?_
    rintro e w1 ⟨rfl, rfl⟩
    go_wp2_with fail
    refine (HAW.out _ HB0.out).mono ?_
    rintro e w1 ⟨rfl, hb⟩
    have HB1 := Lib.hid (belowNext HB0.out hb)
    clear hb
    go_wp2
    go_ret
    exact ⟨rfl, HB1.out⟩
  | true =>
    rw [hf] at HFW
    by_cases hc : chkR n l = 0
    case neg =>
      have hne : (chkR n l != 0) = true := by rw [bne_iff_ne]; exact hc
      clear hf HSV HRF HHO HVR
      generalize chkR n l = E at *
      go_enter Try.func8, Try.ntmps8
      go_wp2_with fail
      refine (HFW.out _ HB0.out).mono ?_
      rintro e w1 ⟨rfl, rfl⟩
      go_wp2_with fail
      refine (HCK.out _ HB0.out).mono ?_
      rintro e w1 ⟨rfl, rfl⟩
      go_wp2_with fail
      refine (HAW.out _ HB0.out).mono ?_
      rintro e w1 ⟨rfl, hb⟩
      have HB1 := Lib.hid (belowNext HB0.out hb)
      clear hb
      go_wp2
      go_ret
      exact ⟨rfl, HB1.out⟩
    case pos =>
      have hd := decides hc
      rw [hc] at HCK
      clear hf hc
      generalize slvV n l = V at *
      generalize slvE n l = SE at *
      generalize reE n l = RE at *
      generalize holV n l V = HV at *
      generalize holE n l V = HE at *
      generalize reL n l = RL at *
      rcases hd with ⟨rfl, rfl, rfl, rfl, rfl⟩ | ⟨rfl, rfl, hver⟩
      · clear HVR
        go_enter Try.func8, Try.ntmps8
        go_wp2_with fail
        refine (HFW.out _ HB0.out).mono ?_
        rintro e w1 ⟨rfl, rfl⟩
        go_wp2_with fail
        refine (HCK.out _ HB0.out).mono ?_
        rintro e w1 ⟨rfl, rfl⟩
        go_wp2_with fail
        refine (HSV.out _ HB0.out).mono ?_
        rintro e w1 ⟨rfl, hb⟩
        have HB1 := Lib.hid (belowNext HB0.out hb)
        clear hb
        go_wp2_with fail
        refine (HRF.out _ HB1.out).mono ?_
        rintro e w2 ⟨AR, cR, rfl, hr, hb⟩
        have HB2 := Lib.hid (belowNext HB1.out hb)
        clear hb hr
        go_wp2_with fail
        refine (HHO.out _ HB2.out).mono ?_
        rintro e w3 ⟨rfl, hb⟩
        have HB3 := Lib.hid (belowNext HB2.out hb)
        clear hb
        go_wp2_with fail
        refine (HAW.out _ HB3.out).mono ?_
        rintro e w4 ⟨rfl, hb⟩
        have HB4 := Lib.hid (belowNext HB3.out hb)
        clear hb
        go_wp2
        go_ret
        exact ⟨rfl, HB4.out⟩
      · rw [hver] at HVR
        clear HHO hver
        go_enter Try.func8, Try.ntmps8
        go_wp2_with fail
        refine (HFW.out _ HB0.out).mono ?_
        rintro e w1 ⟨rfl, rfl⟩
        go_wp2_with fail
        refine (HCK.out _ HB0.out).mono ?_
        rintro e w1 ⟨rfl, rfl⟩
        go_wp2_with fail
        refine (HSV.out _ HB0.out).mono ?_
        rintro e w1 ⟨rfl, hb⟩
        have HB1 := Lib.hid (belowNext HB0.out hb)
        clear hb
        go_wp2_with fail
        refine (HRF.out _ HB1.out).mono ?_
        rintro e w2 ⟨AR, cR, rfl, hr, hb⟩
        have HB2 := Lib.hid (belowNext HB1.out hb)
        have HLR := Lib.hid hr
        clear hb hr
        go_wp2_with fail
        refine (HVR.out _ _ _ HB2.out HLR.out).mono ?_
        rintro e w3 ⟨rfl, hb⟩
        have HB3 := Lib.hid (belowNext HB2.out hb)
        clear hb HLR
        go_wp2_with fail
        refine (HAW.out _ HB3.out).mono ?_
        rintro e w4 ⟨rfl, hb⟩
        have HB4 := Lib.hid (belowNext HB3.out hb)
        clear hb
        go_wp2
        go_ret
        exact ⟨rfl, HB4.out⟩
theorem contract (H : Type) (enc : TypeId × Value → H) (W : World) (base : Nat) (args : Array Value) (ds gs : List (DataW H)) (before : List MemPlace)
    (hval : ∀ (j : Nat) t v, Try.f8.params[j]? = some t → args[j]? = some v → Value.okWide Try.prog W .any base t v)
    (hW : DataW.Whole enc Try.prog Try.f8.params.toList Rows.resolutionDecidesSpec.vars false W args.toList ds gs before) :
    Calls Try.prog 8 args W fun e W' => ∃ v, e = .returned v ∧ Rows.resolutionDecidesSpec.post enc Try.prog Try.f8 false true false false W args v W' := by
  have hW' := hW
  obtain ⟨p, q, hA0, hV, rfl, hfz, hnd⟩ := hW
  have hA : DataW.TrodAll enc Try.prog W 0 (fun _ => true) true Try.f8.params.toList args.toList ds p := hA0
  rw [Try.params8] at hA hval
  obtain ⟨v0, vs0, d0, ds0, p0, q0, hargs, rfl, rfl, h0, r0⟩ := trodAll_cons hA
  obtain ⟨v1, vs1, d1, ds1, p1, q1, rfl, rfl, rfl, h1, r1⟩ := trodAll_cons r0
  obtain ⟨rfl, rfl, rfl⟩ := trodAll_nil r1
  obtain rfl : args = #[v0, v1] := by cases args; simp_all
  obtain ⟨rfl, rfl⟩ := trodVars_none hV
  obtain ⟨z0, rfl⟩ := okWide_int Try.underlying3 (hval 0 3 v0 rfl rfl)
  have k0 := h0
  have lt0 : ∀ x ∈ p0, x.block < W.heap.size := by obtain ⟨m, hm⟩ := k0; exact DataW.trod_lt m _ _ _ hm
  have k10 := h1
  obtain ⟨fuel1, hf1⟩ := k10
  obtain ⟨Aq1, nq1, cq1, rfl⟩ := okWide_slice Try.underlying22 (hval 1 22 v1 rfl rfl)
  obtain ⟨A1, n1, c1, z1, ev1, w1, m1⟩ := open_rows (v := .slice Aq1 nq1 cq1) hf1
  injection ev1 with ea1 eb1 ec1
  subst ea1 eb1 ec1
  have k1 := h1
  have lt1 : ∀ x ∈ p1, x.block < W.heap.size := by obtain ⟨m, hm⟩ := k1; exact DataW.trod_lt m _ _ _ hm
  clear hA0
  have hwalk := walk z0 z1 Aq1 nq1 cq1 W w1 m1
  refine hwalk.mono fun e W' ⟨he, hg⟩ => ?_
  subst he
  exact ⟨_, rfl, _, _, _, [], _, [], hW', trodAll_mk1 (shut_bool Try.underlying4 _), (trodAll_cons_mk (Below.trod laidOut (by kernel_rfl) (of_decide_eq_true (by kernel_rfl)) k0 hg lt0) (trodAll_cons_mk (Below.trod laidOut (by kernel_rfl) (of_decide_eq_true (by kernel_rfl)) k1 hg lt1) trodAll_mk0)), rfl, hg.frame _, fun h => by cases h⟩
theorem reads (os : Os) {H : Type} (enc : TypeId × Value → H) : ∃ places, DataW.whole enc Try.prog ((laidW os).forCall (fun _ _ => 0) ⟨#[], #[.int .i64 0, .slice none 0 0], []⟩).memory Try.f8.params.toList Rows.resolutionDecidesSpec.vars false #[Value.int .i64 0, Value.slice none 0 0].toList 8 = some ([.lit (.int .i64 0), .nil], [], places) :=
  ⟨[], by kernel_rfl⟩
theorem lifted (os : Os) (started : os.Started) (H : Type) (enc : TypeId × Value → H) (F : Stop.Interp) :
    ReturnsInHanded {} Try.checked os 8 .any ((OpenSpec.ofChange Rows.resolutionDecidesSpec).preRow enc Try.prog Try.f8 Rows.resolutionDecidesRow.domain false Rows.resolutionDecidesRow.laid) (((OpenSpec.ofChange Rows.resolutionDecidesSpec).at F).post enc Try.prog Try.f8 false true false false) := by
  obtain ⟨places, hx⟩ := reads os enc
  refine returnsInHanded_of_row (C := Try.checked) (s := OpenSpec.ofChange Rows.resolutionDecidesSpec) own started (by kernel_rfl) Try.func8
    (witness_row_at (enc := enc) (C := Try.checked) false (laidW os) #[.int .i64 0, .slice none 0 0] (laidW_os os) (vars_ok os _) (heap_ok os _) (by kernel_rfl)
      (OpenSpec.preRow_of_cond 8 hx (by kernel_rfl) (fun k hk => by cases hk) (by kernel_rfl) (laid_met os _))) ?_
  intro W base args ds gs before hval hW _ _ _ _ _ _
  exact contract H enc W base args ds gs before hval hW
theorem said : Rows.ResolutionDecidesSaid :=
  OpenClaim.holds_of_cond 8 Try.f8 rfl rfl rfl rfl rfl rfl rfl ⟨rfl, rfl, rfl, rfl, rfl⟩ rfl rfl rfl rfl rfl (by kernel_rfl) Try.func8 (by kernel_rfl)
    (of_decide_eq_true (by kernel_rfl)) (by unfold Func.isWrapper; first | (rw [if_pos (by decide +kernel)]; kernel_rfl) | (rw [if_neg (by decide +kernel)]; exact ⟨rfl, rfl⟩))
    (fun os started H enc _ F => by rw [OpenClaim.pre_eq_preRow]; exact lifted os started H enc F)
#print axioms said
end Go.Proofs.Ytopkmcoblndokaa.resolutionDecides
