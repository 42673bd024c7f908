/- Layer 10: ResolutionResolves. -/
import Derived.Test.YtopkmcoblndokaaNRx
namespace Go.Proofs.Ytopkmcoblndokaa.resolutionResolves
open Go.ChangeShapes Go.WideShapes Go.ChangeAt Go.RowKit Go.Proofs.Ytopkmcoblndokaa Go.Proofs.Ws
set_option maxRecDepth 100000
theorem resL_len (a b : List Int) (v : Int) : (resL a b v).length ≤ maxLen := by
  unfold resL
  split
  · have := nrm_len (restL a b v); unfold maxLen; omega
  · exact Nat.zero_le _
set_option maxHeartbeats 8000000 in
theorem walk (a : List Int) (A : Option Addr) (k cap : Nat) (b : List Int) (A2 : Option Addr) (k2 cap2 : Nat) (v : Int) (w : World) (hR : IRow w A k cap a) (hR2 : IRow w A2 k2 cap2 b) :
    Calls Try.prog 6 #[.slice A k cap, .slice A2 k2 cap2, .int .i64 v] w fun e w' => e = .returned (.bool true) ∧ Below w.heap.size w w' := by
  have HB0 := Lib.hid (Below.refl w.heap.size w)
  have HAW : Hid (∀ W, Below w.heap.size w W → Calls Try.prog 11 #[] W fun e w' => e = .returned (.bool true) ∧ Below W.heap.size W w') := Lib.hid (fun W _ => awake_any W)
  have HR1 : Hid (∀ W, Below w.heap.size w W → Calls Try.prog 26 #[.slice A k cap, .slice A2 k2 cap2, .int .i64 v] W fun e w' => GivesL (resL a b v) (resE a b v) W e w') := Lib.hid (fun W hb => xResolve_any a b v A k cap A2 k2 cap2 W ((hR.1.below hb).more hb.size) hR.2.2 hR.2.1 ((hR2.1.below hb).more hb.size) hR2.2.2 hR2.2.1)
  have HR2 : Hid (∀ W, Below w.heap.size w W → Calls Try.prog 27 #[.slice A k cap, .slice A2 k2 cap2, .int .i64 v] W fun e w' => GivesL (resL a b v) (resE a b v) W e w') := Lib.hid (fun W hb => rResolve_any a b v A k cap A2 k2 cap2 W ((hR.1.below hb).more hb.size) hR.2.2 ((hR2.1.below hb).more hb.size) hR2.2.2)
  have HSM := Lib.hid (fun A A2 c1 c2 d d2 W h h2 => same_ow (resL a b v) A A2 c1 c2 d d2 W h h2 (resL_len a b v))
  by_cases h1 : 20 < k
  · have q1 : decide ((20 : Int) < (k : Int)) = true := decide_eq_true (by omega)
    have q2 : decide (20 < k) = true := decide_eq_true h1
    clear HR1 HR2 HSM hR hR2 h1
    go_enter Try.func6, Try.ntmps6
    go_wp2_with fail
    refine (HAW.out _ HB0.out).mono ?_
    rintro e w1 ⟨rfl, hb⟩
    have HB1 := Lib.hid (belowNext HB0.out hb)
    clear hb
    go_wp2
    go_ret
    exact ⟨rfl, HB1.out⟩
  · have q1 : decide ((20 : Int) < (k : Int)) = false := decide_eq_false (by omega)
    have q2 : decide (20 < k) = false := decide_eq_false h1
    by_cases h2 : 20 < k2
    · have q3 : decide ((20 : Int) < (k2 : Int)) = true := decide_eq_true (by omega)
      have q4 : decide (20 < k2) = true := decide_eq_true h2
      clear HR1 HR2 HSM hR hR2 h1 h2
      go_enter Try.func6, Try.ntmps6
      go_wp2_with fail
      refine (HAW.out _ HB0.out).mono ?_
      rintro e w1 ⟨rfl, hb⟩
      have HB1 := Lib.hid (belowNext HB0.out hb)
      clear hb
      go_wp2
      go_ret
      exact ⟨rfl, HB1.out⟩
    · have q3 : decide ((20 : Int) < (k2 : Int)) = false := decide_eq_false (by omega)
      have q4 : decide (20 < k2) = false := decide_eq_false h2
      have e1 : (resE a b v == resE a b v) = true := beq_self_eq_true _
      generalize resE a b v = E at *
      generalize resL a b v = RL at *
      clear hR hR2 h1 h2
      go_enter Try.func6, Try.ntmps6
      go_wp2_with fail
      refine (HR1.out _ HB0.out).mono ?_
      rintro e w1 ⟨A5, c5, rfl, ho, _, hb⟩
      have HB1 := Lib.hid (belowNext HB0.out hb)
      have HO5 := Lib.hid ho
      clear hb ho
      go_wp2_with fail
      refine (HR2.out _ HB1.out).mono ?_
      rintro e w2 ⟨A6, c6, rfl, ho, _, hb⟩
      have HB2 := Lib.hid (belowNext HB1.out hb)
      have HO5b := Lib.hid (HO5.out.below hb)
      have HO6 := Lib.hid ho
      clear hb ho
      go_wp2_with fail
      refine (HSM.out _ _ _ _ _ _ _ HO5b.out HO6.out).mono ?_
      rintro e w8 ⟨rfl, hb⟩
      have HB3 := Lib.hid (belowNext HB2.out hb)
      clear hb
      go_wp2_with fail
      refine (HAW.out _ HB3.out).mono ?_
      rintro e w4 ⟨rfl, hb⟩
      have HB4 := Lib.hid (belowNext HB3.out hb)
      clear hb
      go_wp2
      go_ret
      exact ⟨rfl, HB4.out⟩
theorem contract (H : Type) (enc : TypeId × Value → H) (W : World) (base : Nat) (args : Array Value) (ds gs : List (DataW H)) (before : List MemPlace)
    (hval : ∀ (j : Nat) t v, Try.f6.params[j]? = some t → args[j]? = some v → Value.okWide Try.prog W .any base t v)
    (hW : DataW.Whole enc Try.prog Try.f6.params.toList Rows.resolutionResolvesSpec.vars false W args.toList ds gs before) :
    Calls Try.prog 6 args W fun e W' => ∃ v, e = .returned v ∧ Rows.resolutionResolvesSpec.post enc Try.prog Try.f6 false true false false W args v W' := by
  have hW' := hW
  obtain ⟨p, q, hA0, hV, rfl, hfz, hnd⟩ := hW
  have hA : DataW.TrodAll enc Try.prog W 0 (fun _ => true) true Try.f6.params.toList args.toList ds p := hA0
  rw [Try.params6] at hA hval
  obtain ⟨v0, vs0, d0, ds0, p0, q0, hargs, rfl, rfl, h0, r0⟩ := trodAll_cons hA
  obtain ⟨v1, vs1, d1, ds1, p1, q1, rfl, rfl, rfl, h1, r1⟩ := trodAll_cons r0
  obtain ⟨v2, vs2, d2, ds2, p2, q2, rfl, rfl, rfl, h2, r2⟩ := trodAll_cons r1
  obtain ⟨rfl, rfl, rfl⟩ := trodAll_nil r2
  obtain rfl : args = #[v0, v1, v2] := by cases args; simp_all
  obtain ⟨rfl, rfl⟩ := trodVars_none hV
  have k00 := h0
  obtain ⟨fuel0, hf0⟩ := k00
  obtain ⟨Aq0, nq0, cq0, rfl⟩ := okWide_slice Try.underlying23 (hval 0 23 v0 rfl rfl)
  obtain ⟨A0, n0, c0, z0, ev0, w0⟩ := open_is0 (v := .slice Aq0 nq0 cq0) hf0
  injection ev0 with ea0 eb0 ec0
  subst ea0 eb0 ec0
  have k0 := h0
  have lt0 : ∀ x ∈ p0, x.block < W.heap.size := by obtain ⟨m, hm⟩ := k0; exact DataW.trod_lt m _ _ _ hm
  have k10 := h1
  obtain ⟨fuel1, hf1⟩ := k10
  obtain ⟨Aq1, nq1, cq1, rfl⟩ := okWide_slice Try.underlying23 (hval 1 23 v1 rfl rfl)
  obtain ⟨A1, n1, c1, z1, ev1, w1⟩ := open_is0 (v := .slice Aq1 nq1 cq1) hf1
  injection ev1 with ea1 eb1 ec1
  subst ea1 eb1 ec1
  have k1 := h1
  have lt1 : ∀ x ∈ p1, x.block < W.heap.size := by obtain ⟨m, hm⟩ := k1; exact DataW.trod_lt m _ _ _ hm
  obtain ⟨z2, rfl⟩ := okWide_int Try.underlying3 (hval 2 3 v2 rfl rfl)
  have k2 := h2
  have lt2 : ∀ x ∈ p2, x.block < W.heap.size := by obtain ⟨m, hm⟩ := k2; exact DataW.trod_lt m _ _ _ hm
  clear hA0
  have hwalk := walk z0 Aq0 nq0 cq0 z1 Aq1 nq1 cq1 z2 W w0 w1
  refine hwalk.mono fun e W' ⟨he, hg⟩ => ?_
  subst he
  exact ⟨_, rfl, _, _, _, [], _, [], hW', trodAll_mk1 (shut_bool Try.underlying4 _), (trodAll_cons_mk (Below.trod laidOut (by kernel_rfl) (of_decide_eq_true (by kernel_rfl)) k0 hg lt0) (trodAll_cons_mk (Below.trod laidOut (by kernel_rfl) (of_decide_eq_true (by kernel_rfl)) k1 hg lt1) (trodAll_cons_mk (Below.trod laidOut (by kernel_rfl) (of_decide_eq_true (by kernel_rfl)) k2 hg lt2) trodAll_mk0))), rfl, hg.frame _, fun h => by cases h⟩
theorem reads (os : Os) {H : Type} (enc : TypeId × Value → H) : ∃ places, DataW.whole enc Try.prog ((laidW os).forCall (fun _ _ => 0) ⟨#[], #[.slice none 0 0, .slice none 0 0, .int .i64 0], []⟩).memory Try.f6.params.toList Rows.resolutionResolvesSpec.vars false #[Value.slice none 0 0, Value.slice none 0 0, Value.int .i64 0].toList 8 = some ([.nil, .nil, .lit (.int .i64 0)], [], places) :=
  ⟨[], by kernel_rfl⟩
theorem lifted (os : Os) (started : os.Started) (H : Type) (enc : TypeId × Value → H) (F : Stop.Interp) :
    ReturnsInHanded {} Try.checked os 6 .any ((OpenSpec.ofChange Rows.resolutionResolvesSpec).preRow enc Try.prog Try.f6 Rows.resolutionResolvesRow.domain false Rows.resolutionResolvesRow.laid) (((OpenSpec.ofChange Rows.resolutionResolvesSpec).at F).post enc Try.prog Try.f6 false true false false) := by
  obtain ⟨places, hx⟩ := reads os enc
  refine returnsInHanded_of_row (C := Try.checked) (s := OpenSpec.ofChange Rows.resolutionResolvesSpec) own started (by kernel_rfl) Try.func6
    (witness_row_at (enc := enc) (C := Try.checked) false (laidW os) #[.slice none 0 0, .slice none 0 0, .int .i64 0] (laidW_os os) (vars_ok os _) (heap_ok os _) (by kernel_rfl)
      (OpenSpec.preRow_of_cond 8 hx (by kernel_rfl) (fun k hk => by cases hk) (by kernel_rfl) (laid_met os _))) ?_
  intro W base args ds gs before hval hW _ _ _ _ _ _
  exact contract H enc W base args ds gs before hval hW
theorem said : Rows.ResolutionResolvesSaid :=
  OpenClaim.holds_of_cond 6 Try.f6 rfl rfl rfl rfl rfl rfl rfl ⟨rfl, rfl, rfl, rfl, rfl⟩ rfl rfl rfl rfl rfl (by kernel_rfl) Try.func6 (by kernel_rfl)
    (of_decide_eq_true (by kernel_rfl)) (by unfold Func.isWrapper; first | (rw [if_pos (by decide +kernel)]; kernel_rfl) | (rw [if_neg (by decide +kernel)]; exact ⟨rfl, rfl⟩))
    (fun os started H enc _ F => by rw [OpenClaim.pre_eq_preRow]; exact lifted os started H enc F)
#print axioms said
end Go.Proofs.Ytopkmcoblndokaa.resolutionResolves
