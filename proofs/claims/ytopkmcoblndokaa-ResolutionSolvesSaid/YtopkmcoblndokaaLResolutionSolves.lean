/- Layer 10: ResolutionSolves. -/
import Derived.Test.YtopkmcoblndokaaNRw
namespace Go.Proofs.Ytopkmcoblndokaa.resolutionSolves
open Go.ChangeShapes Go.WideShapes Go.ChangeAt Go.RowKit Go.Proofs.Ytopkmcoblndokaa Go.Proofs.Ws
set_option maxRecDepth 100000
set_option maxHeartbeats 8000000 in
theorem walk (n : Int) (l : List (List Int)) (A : Option Addr) (k cap : Nat) (v : Int) (w : World) (hR : ZsR w w.heap.size A k l) (hk : k ≤ maxLen) :
    Calls Try.prog 4 #[.int .i64 n, .slice A k cap, .int .i64 v] w fun e w' => e = .returned (.bool true) ∧ Below w.heap.size w w' := by
  have HB0 := Lib.hid (Below.refl w.heap.size w)
  have HAW : Hid (∀ W, Below w.heap.size w W → Calls Try.prog 11 #[] W fun e w' => e = .returned (.bool true) ∧ Below W.heap.size W w') := Lib.hid (fun W _ => awake_any W)
  have HFW : Hid (∀ W, Below w.heap.size w W → Calls Try.prog 17 #[.int .i64 n, .slice A k cap] W fun e w' => e = .returned (.bool (fewB n l)) ∧ W = w') := Lib.hid (fun W hb => xFew_any n l A k cap _ W (hR.below hb hb.size) hk)
  have HH1 : Hid (∀ W, Below w.heap.size w W → Calls Try.prog 18 #[.int .i64 n, .slice A k cap, .int .i64 v] W fun e w' => e = .returned (.tuple #[.bool (holV n l v), .int .i64 (holE n l v)]) ∧ Below W.heap.size W w') := Lib.hid (fun W hb => xHolds_any n l v A k cap W (hR.below hb hb.size) hk)
  have HM1 : Hid (∀ W, Below w.heap.size w W → Calls Try.prog 20 #[.int .i64 n, .slice A k cap] W fun e w' => e = .returned (.tuple #[.int .i64 (modV n l), .int .i64 (chkR n l)]) ∧ Below W.heap.size W w') := Lib.hid (fun W hb => xModels_any n l A k cap W (hR.below hb hb.size) hk)
  have HS1 : Hid (∀ W, Below w.heap.size w W → Calls Try.prog 22 #[.int .i64 n, .slice A k cap] W fun e w' => e = .returned (.tuple #[.int .i64 (slvV n l), .int .i64 (slvE n l)]) ∧ Below W.heap.size W w') := Lib.hid (fun W hb => xSolve_any n l A k cap W (hR.below hb hb.size) hk)
  have HH2 : Hid (∀ W, Below w.heap.size w W → Calls Try.prog 19 #[.int .i64 n, .slice A k cap, .int .i64 v] W fun e w' => e = .returned (.tuple #[.bool (holV n l v), .int .i64 (holE n l v)]) ∧ Below W.heap.size W w') := Lib.hid (fun W hb => rHolds_any n l v A k cap W (hR.below hb hb.size) hk)
  have HM2 : Hid (∀ W, Below w.heap.size w W → Calls Try.prog 21 #[.int .i64 n, .slice A k cap] W fun e w' => e = .returned (.tuple #[.int .i64 (modV n l), .int .i64 (chkR n l)]) ∧ Below W.heap.size W w') := Lib.hid (fun W hb => rModels_any n l A k cap W (hR.below hb hb.size) hk)
  have HS2 : Hid (∀ W, Below w.heap.size w W → Calls Try.prog 23 #[.int .i64 n, .slice A k cap] W fun e w' => e = .returned (.tuple #[.int .i64 (slvV n l), .int .i64 (slvE n l)]) ∧ Below W.heap.size W w') := Lib.hid (fun W hb => rSolve_any n l A k cap W (hR.below hb hb.size) hk)
  clear hR hk
  cases hf : fewB n l with
  | false =>
    rw [hf] at HFW
    clear hf HH1 HH2 HM1 HM2 HS1 HS2
    go_enter Try.func4, Try.ntmps4
    go_wp2_with fail
    refine (HFW.out _ HB0.out).mono ?_
    rintro e w1 ⟨rfl, rfl⟩
    go_wp2_with fail
    refine (HAW.out _ HB0.out).mono ?_
    rintro e w1 ⟨rfl, hb⟩
    have HB1 := Lib.hid (belowNext HB0.out hb)
    clear hb
    go_wp2
    go_ret
    exact ⟨rfl, HB1.out⟩
  | true =>
    rw [hf] at HFW
    have e1 : (holV n l v == holV n l v) = true := beq_self_eq_true _
    have e2 : (holE n l v == holE n l v) = true := beq_self_eq_true _
    have e3 : (modV n l == modV n l) = true := beq_self_eq_true _
    have e4 : (chkR n l == chkR n l) = true := beq_self_eq_true _
    have e5 : (slvV n l == slvV n l) = true := beq_self_eq_true _
    have e6 : (slvE n l == slvE n l) = true := beq_self_eq_true _
    clear hf
    generalize holV n l v = v1 at *
    generalize holE n l v = v2 at *
    generalize modV n l = v3 at *
    generalize chkR n l = v4 at *
    generalize slvV n l = v5 at *
    generalize slvE n l = v6 at *
    go_enter Try.func4, Try.ntmps4
    go_wp2_with fail
    refine (HFW.out _ HB0.out).mono ?_
    rintro e w1 ⟨rfl, rfl⟩
    go_wp2_with fail
    refine (HH1.out _ HB0.out).mono ?_
    rintro e w1 ⟨rfl, hb⟩
    have HB1 := Lib.hid (belowNext HB0.out hb)
    clear hb
    go_wp2_with fail
    refine (HH2.out _ HB1.out).mono ?_
    rintro e w2 ⟨rfl, hb⟩
    have HB2 := Lib.hid (belowNext HB1.out hb)
    clear hb
    go_wp2_with fail
    refine (HM1.out _ HB2.out).mono ?_
    rintro e w3 ⟨rfl, hb⟩
    have HB3 := Lib.hid (belowNext HB2.out hb)
    clear hb
    go_wp2_with fail
    refine (HM2.out _ HB3.out).mono ?_
    rintro e w4 ⟨rfl, hb⟩
    have HB4 := Lib.hid (belowNext HB3.out hb)
    clear hb
    go_wp2_with fail
    refine (HS1.out _ HB4.out).mono ?_
    rintro e w5 ⟨rfl, hb⟩
    have HB5 := Lib.hid (belowNext HB4.out hb)
    clear hb
    go_wp2_with fail
    refine (HS2.out _ HB5.out).mono ?_
    rintro e w6 ⟨rfl, hb⟩
    have HB6 := Lib.hid (belowNext HB5.out hb)
    clear hb
    go_wp2_with fail
    refine (HAW.out _ HB6.out).mono ?_
    rintro e w7 ⟨rfl, hb⟩
    have HB7 := Lib.hid (belowNext HB6.out hb)
    clear hb
    go_wp2
    go_ret
    exact ⟨rfl, HB7.out⟩
theorem contract (H : Type) (enc : TypeId × Value → H) (W : World) (base : Nat) (args : Array Value) (ds gs : List (DataW H)) (before : List MemPlace)
    (hval : ∀ (j : Nat) t v, Try.f4.params[j]? = some t → args[j]? = some v → Value.okWide Try.prog W .any base t v)
    (hW : DataW.Whole enc Try.prog Try.f4.params.toList Rows.resolutionSolvesSpec.vars false W args.toList ds gs before) :
    Calls Try.prog 4 args W fun e W' => ∃ v, e = .returned v ∧ Rows.resolutionSolvesSpec.post enc Try.prog Try.f4 false true false false W args v W' := by
  have hW' := hW
  obtain ⟨p, q, hA0, hV, rfl, hfz, hnd⟩ := hW
  have hA : DataW.TrodAll enc Try.prog W 0 (fun _ => true) true Try.f4.params.toList args.toList ds p := hA0
  rw [Try.params4] at hA hval
  obtain ⟨v0, vs0, d0, ds0, p0, q0, hargs, rfl, rfl, h0, r0⟩ := trodAll_cons hA
  obtain ⟨v1, vs1, d1, ds1, p1, q1, rfl, rfl, rfl, h1, r1⟩ := trodAll_cons r0
  obtain ⟨v2, vs2, d2, ds2, p2, q2, rfl, rfl, rfl, h2, r2⟩ := trodAll_cons r1
  obtain ⟨rfl, rfl, rfl⟩ := trodAll_nil r2
  obtain rfl : args = #[v0, v1, v2] := by cases args; simp_all
  obtain ⟨rfl, rfl⟩ := trodVars_none hV
  obtain ⟨z0, rfl⟩ := okWide_int Try.underlying3 (hval 0 3 v0 rfl rfl)
  have k0 := h0
  have lt0 : ∀ x ∈ p0, x.block < W.heap.size := by obtain ⟨m, hm⟩ := k0; exact DataW.trod_lt m _ _ _ hm
  have k10 := h1
  obtain ⟨fuel1, hf1⟩ := k10
  obtain ⟨Aq1, nq1, cq1, rfl⟩ := okWide_slice Try.underlying22 (hval 1 22 v1 rfl rfl)
  obtain ⟨A1, n1, c1, z1, ev1, w1, m1⟩ := open_rows (v := .slice Aq1 nq1 cq1) hf1
  injection ev1 with ea1 eb1 ec1
  subst ea1 eb1 ec1
  have k1 := h1
  have lt1 : ∀ x ∈ p1, x.block < W.heap.size := by obtain ⟨m, hm⟩ := k1; exact DataW.trod_lt m _ _ _ hm
  obtain ⟨z2, rfl⟩ := okWide_int Try.underlying3 (hval 2 3 v2 rfl rfl)
  have k2 := h2
  have lt2 : ∀ x ∈ p2, x.block < W.heap.size := by obtain ⟨m, hm⟩ := k2; exact DataW.trod_lt m _ _ _ hm
  clear hA0
  have hwalk := walk z0 z1 Aq1 nq1 cq1 z2 W w1 m1
  refine hwalk.mono fun e W' ⟨he, hg⟩ => ?_
  subst he
  exact ⟨_, rfl, _, _, _, [], _, [], hW', trodAll_mk1 (shut_bool Try.underlying4 _), (trodAll_cons_mk (Below.trod laidOut (by kernel_rfl) (of_decide_eq_true (by kernel_rfl)) k0 hg lt0) (trodAll_cons_mk (Below.trod laidOut (by kernel_rfl) (of_decide_eq_true (by kernel_rfl)) k1 hg lt1) (trodAll_cons_mk (Below.trod laidOut (by kernel_rfl) (of_decide_eq_true (by kernel_rfl)) k2 hg lt2) trodAll_mk0))), rfl, hg.frame _, fun h => by cases h⟩
theorem reads (os : Os) {H : Type} (enc : TypeId × Value → H) : ∃ places, DataW.whole enc Try.prog ((laidW os).forCall (fun _ _ => 0) ⟨#[], #[.int .i64 0, .slice none 0 0, .int .i64 0], []⟩).memory Try.f4.params.toList Rows.resolutionSolvesSpec.vars false #[Value.int .i64 0, Value.slice none 0 0, Value.int .i64 0].toList 8 = some ([.lit (.int .i64 0), .nil, .lit (.int .i64 0)], [], places) :=
  ⟨[], by kernel_rfl⟩
theorem lifted (os : Os) (started : os.Started) (H : Type) (enc : TypeId × Value → H) (F : Stop.Interp) :
    ReturnsInHanded {} Try.checked os 4 .any ((OpenSpec.ofChange Rows.resolutionSolvesSpec).preRow enc Try.prog Try.f4 Rows.resolutionSolvesRow.domain false Rows.resolutionSolvesRow.laid) (((OpenSpec.ofChange Rows.resolutionSolvesSpec).at F).post enc Try.prog Try.f4 false true false false) := by
  obtain ⟨places, hx⟩ := reads os enc
  refine returnsInHanded_of_row (C := Try.checked) (s := OpenSpec.ofChange Rows.resolutionSolvesSpec) own started (by kernel_rfl) Try.func4
    (witness_row_at (enc := enc) (C := Try.checked) false (laidW os) #[.int .i64 0, .slice none 0 0, .int .i64 0] (laidW_os os) (vars_ok os _) (heap_ok os _) (by kernel_rfl)
      (OpenSpec.preRow_of_cond 8 hx (by kernel_rfl) (fun k hk => by cases hk) (by kernel_rfl) (laid_met os _))) ?_
  intro W base args ds gs before hval hW _ _ _ _ _ _
  exact contract H enc W base args ds gs before hval hW
theorem said : Rows.ResolutionSolvesSaid :=
  OpenClaim.holds_of_cond 4 Try.f4 rfl rfl rfl rfl rfl rfl rfl ⟨rfl, rfl, rfl, rfl, rfl⟩ rfl rfl rfl rfl rfl (by kernel_rfl) Try.func4 (by kernel_rfl)
    (of_decide_eq_true (by kernel_rfl)) (by unfold Func.isWrapper; first | (rw [if_pos (by decide +kernel)]; kernel_rfl) | (rw [if_neg (by decide +kernel)]; exact ⟨rfl, rfl⟩))
    (fun os started H enc _ F => by rw [OpenClaim.pre_eq_preRow]; exact lifted os started H enc F)
#print axioms said
end Go.Proofs.Ytopkmcoblndokaa.resolutionSolves
