/- FormulaChecks (P5.1, P5.3): error, depth, fragments, facts, agents of any list of nodes, and whether it fits two numbers, are those of the specification. No condition. -/
import Derived.Test.YtcbmncafmofcpaaMl
import Derived.Test.YtcbmncafmofcpaaMm
import Derived.Test.YtcbmncafmofcpaaMq
import Derived.Test.YtcbmncafmofcpaaMt
namespace Go.Proofs.Ytcbmncafmofcpaa.formulaChecks
open Go.ChangeShapes Go.WideShapes Go.ChangeAt Go.RowKit Go.Proofs.Ytcbmncafmofcpaa Go.Proofs.Ws
set_option maxRecDepth 100000 in
set_option maxHeartbeats 4000000 in
theorem walk (f : List Nd) (A0 : Option Addr) (n0 c0 : Nat) (a b : Int) (w : World) (h0 : NdRow w A0 n0 c0 f) :
    Calls Try.prog 3 #[.slice A0 n0 c0, .int .i64 a, .int .i64 b] w fun e w' => e = .returned (.bool true) ∧ Below w.heap.size w w' := by
  have HX := Lib.hid h0.1
  have hm0 := h0.2.2.2
  have HAW := Lib.hid (fun W => awake_any W)
  have H0 : Hid (∀ W, Below w.heap.size w W → Calls Try.prog 12 #[.slice A0 n0 c0] W fun e w' => e = .returned (.int .i64 (fErr f)) ∧ Below W.heap.size W w') := Lib.hid (fun W h => pCheck_any f A0 n0 c0 W ((HX.out.below h).more h.size) hm0)
  have H1 : Hid (∀ W, Below w.heap.size w W → Calls Try.prog 13 #[.slice A0 n0 c0] W fun e w' => e = .returned (.int .i64 (fErr f)) ∧ Below W.heap.size W w') := Lib.hid (fun W h => rCheck_any f A0 n0 c0 W ((HX.out.below h).more h.size) hm0)
  have H2 : Hid (∀ W, Below w.heap.size w W → Calls Try.prog 14 #[.slice A0 n0 c0] W fun e w' => e = .returned (.int .i64 (depF f)) ∧ Below W.heap.size W w') := Lib.hid (fun W h => pDepth_any f A0 n0 c0 W ((HX.out.below h).more h.size) hm0)
  have H3 : Hid (∀ W, Below w.heap.size w W → Calls Try.prog 15 #[.slice A0 n0 c0] W fun e w' => e = .returned (.int .i64 (depF f)) ∧ Below W.heap.size W w') := Lib.hid (fun W h => rDepth_any f A0 n0 c0 W ((HX.out.below h).more h.size) hm0)
  have H4 : Hid (∀ W, Below w.heap.size w W → Calls Try.prog 16 #[.slice A0 n0 c0] W fun e w' => e = .returned (.int .i64 ((maskL fragD (compF f) : Int))) ∧ Below W.heap.size W w') := Lib.hid (fun W h => pFrags_any f A0 n0 c0 W ((HX.out.below h).more h.size) hm0)
  have H5 : Hid (∀ W, Below w.heap.size w W → Calls Try.prog 17 #[.slice A0 n0 c0] W fun e w' => e = .returned (.int .i64 ((maskL fragD (compF f) : Int))) ∧ Below W.heap.size W w') := Lib.hid (fun W h => rFrags_any f A0 n0 c0 W ((HX.out.below h).more h.size) hm0)
  have H6 : Hid (∀ W, Below w.heap.size w W → Calls Try.prog 18 #[.slice A0 n0 c0] W fun e w' => e = .returned (.int .i64 ((maskL factD (compF f) : Int))) ∧ Below W.heap.size W w') := Lib.hid (fun W h => pFacts_any f A0 n0 c0 W ((HX.out.below h).more h.size) hm0)
  have H7 : Hid (∀ W, Below w.heap.size w W → Calls Try.prog 19 #[.slice A0 n0 c0] W fun e w' => e = .returned (.int .i64 ((maskL factD (compF f) : Int))) ∧ Below W.heap.size W w') := Lib.hid (fun W h => rFacts_any f A0 n0 c0 W ((HX.out.below h).more h.size) hm0)
  have H8 : Hid (∀ W, Below w.heap.size w W → Calls Try.prog 20 #[.slice A0 n0 c0] W fun e w' => e = .returned (.int .i64 ((maskL agentD (compF f) : Int))) ∧ Below W.heap.size W w') := Lib.hid (fun W h => pAgents_any f A0 n0 c0 W ((HX.out.below h).more h.size) hm0)
  have H9 : Hid (∀ W, Below w.heap.size w W → Calls Try.prog 21 #[.slice A0 n0 c0] W fun e w' => e = .returned (.int .i64 ((maskL agentD (compF f) : Int))) ∧ Below W.heap.size W w') := Lib.hid (fun W h => rAgents_any f A0 n0 c0 W ((HX.out.below h).more h.size) hm0)
  have H10 : Hid (∀ W, Below w.heap.size w W → Calls Try.prog 22 #[.slice A0 n0 c0, .int .i64 a, .int .i64 b] W fun e w' => e = .returned (.bool (fitsF f a b)) ∧ Below W.heap.size W w') := Lib.hid (fun W h => pFits_any f a b A0 n0 c0 W ((HX.out.below h).more h.size) hm0)
  have H11 : Hid (∀ W, Below w.heap.size w W → Calls Try.prog 23 #[.slice A0 n0 c0, .int .i64 a, .int .i64 b] W fun e w' => e = .returned (.bool (fitsF f a b)) ∧ Below W.heap.size W w') := Lib.hid (fun W h => rFits_any f a b A0 n0 c0 W ((HX.out.below h).more h.size) hm0)
  generalize fErr f = zE at *
  generalize depF f = zD at *
  generalize ((maskL fragD (compF f) : Nat) : Int) = zF at *
  generalize ((maskL factD (compF f) : Nat) : Int) = zA at *
  generalize ((maskL agentD (compF f) : Nat) : Int) = zG at *
  generalize fitsF f a b = bs at *
  unfold maxLen at hm0
  clear h0
  have hss : (bs == bs) = true := by simp
  have hz1 : (zE == zE) = true := by simp
  have hz2 : (zD == zD) = true := by simp
  have hz3 : (zF == zF) = true := by simp
  have hz4 : (zA == zA) = true := by simp
  have hz5 : (zG == zG) = true := by simp
  by_cases hbig : n0 ≤ 300
  · have d0 : decide (300 < (n0 : Int)) = false := decide_eq_false (by omega)
    have e0 : decide (300 < n0) = false := decide_eq_false (by omega)
    clear hbig
    go_enter Try.func3, Try.ntmps3
    go_wp2_with fail
    refine (HAW.out _).mono ?_
    rintro e w1 ⟨rfl, hb⟩
    have HB0 := Lib.hid hb
    clear hb
    go_wp2_with fail
    refine (H0.out _ HB0.out).mono ?_
    rintro e wx ⟨rfl, hb⟩
    have HB1 := Lib.hid (HB0.out.trans (hb.mono HB0.out.size))
    clear hb
    go_wp2_with fail
    refine (H1.out _ HB1.out).mono ?_
    rintro e wx ⟨rfl, hb⟩
    have HB2 := Lib.hid (HB1.out.trans (hb.mono HB1.out.size))
    clear hb
    go_wp2_with fail
    refine (H2.out _ HB2.out).mono ?_
    rintro e wx ⟨rfl, hb⟩
    have HB3 := Lib.hid (HB2.out.trans (hb.mono HB2.out.size))
    clear hb
    go_wp2_with fail
    refine (H3.out _ HB3.out).mono ?_
    rintro e wx ⟨rfl, hb⟩
    have HB4 := Lib.hid (HB3.out.trans (hb.mono HB3.out.size))
    clear hb
    go_wp2_with fail
    refine (H4.out _ HB4.out).mono ?_
    rintro e wx ⟨rfl, hb⟩
    have HB5 := Lib.hid (HB4.out.trans (hb.mono HB4.out.size))
    clear hb
    go_wp2_with fail
    refine (H5.out _ HB5.out).mono ?_
    rintro e wx ⟨rfl, hb⟩
    have HB6 := Lib.hid (HB5.out.trans (hb.mono HB5.out.size))
    clear hb
    go_wp2_with fail
    refine (H6.out _ HB6.out).mono ?_
    rintro e wx ⟨rfl, hb⟩
    have HB7 := Lib.hid (HB6.out.trans (hb.mono HB6.out.size))
    clear hb
    go_wp2_with fail
    refine (H7.out _ HB7.out).mono ?_
    rintro e wx ⟨rfl, hb⟩
    have HB8 := Lib.hid (HB7.out.trans (hb.mono HB7.out.size))
    clear hb
    go_wp2_with fail
    refine (H8.out _ HB8.out).mono ?_
    rintro e wx ⟨rfl, hb⟩
    have HB9 := Lib.hid (HB8.out.trans (hb.mono HB8.out.size))
    clear hb
    go_wp2_with fail
    refine (H9.out _ HB9.out).mono ?_
    rintro e wx ⟨rfl, hb⟩
    have HB10 := Lib.hid (HB9.out.trans (hb.mono HB9.out.size))
    clear hb
    go_wp2_with fail
    refine (H10.out _ HB10.out).mono ?_
    rintro e wx ⟨rfl, hb⟩
    have HB11 := Lib.hid (HB10.out.trans (hb.mono HB10.out.size))
    clear hb
    go_wp2_with fail
    refine (H11.out _ HB11.out).mono ?_
    rintro e wx ⟨rfl, hb⟩
    have HB12 := Lib.hid (HB11.out.trans (hb.mono HB11.out.size))
    clear hb
    go_wp2
    go_ret
    exact ⟨rfl, HB12.out⟩
  · have d0 : decide (300 < (n0 : Int)) = true := decide_eq_true (by omega)
    have e0 : decide (300 < n0) = true := decide_eq_true (by omega)
    clear hbig
    go_enter Try.func3, Try.ntmps3
    go_wp2_with fail
    refine (HAW.out _).mono ?_
    rintro e w1 ⟨rfl, hb⟩
    have HB1 := Lib.hid hb
    clear hb
    go_wp2_with fail
    refine (HAW.out _).mono ?_
    rintro e w2 ⟨rfl, hb⟩
    have HB2 := Lib.hid (HB1.out.trans (hb.mono HB1.out.size))
    clear hb
    go_wp2
    go_ret
    exact ⟨rfl, HB2.out⟩
set_option maxRecDepth 100000 in
theorem contract (H : Type) (enc : TypeId × Value → H) (W : World) (base : Nat) (args : Array Value) (ds gs : List (DataW H)) (before : List MemPlace)
    (hval : ∀ (j : Nat) t v, Try.f3.params[j]? = some t → args[j]? = some v → Value.okWide Try.prog W .any base t v)
    (hW : DataW.Whole enc Try.prog Try.f3.params.toList Rows.formulaChecksSpec.vars false W args.toList ds gs before) :
    Calls Try.prog 3 args W fun e W' => ∃ v, e = .returned v ∧ Rows.formulaChecksSpec.post enc Try.prog Try.f3 false true false false W args v W' := by
  have hW' := hW
  obtain ⟨p, q, hA0, hV, rfl, hfz, hnd⟩ := hW
  have hA : DataW.TrodAll enc Try.prog W 0 (fun _ => true) true Try.f3.params.toList args.toList ds p := hA0
  rw [Try.params3] at hA hval
  obtain ⟨v0, vs0, d0, ds0, p0, q0, hargs, rfl, rfl, h0, r0⟩ := trodAll_cons hA
  obtain ⟨v1, vs1, d1, ds1, p1, q1, rfl, rfl, rfl, h1, r1⟩ := trodAll_cons r0
  obtain ⟨v2, vs2, d2, ds2, p2, q2, rfl, rfl, rfl, h2, r2⟩ := trodAll_cons r1
  obtain ⟨rfl, rfl, rfl⟩ := trodAll_nil r2
  obtain rfl : args = #[v0, v1, v2] := by cases args; simp_all
  obtain ⟨rfl, rfl⟩ := trodVars_none hV
  obtain ⟨A0, n0, c0, rfl⟩ := okWide_slice Try.underlying22 (hval 0 22 v0 rfl rfl)
  obtain ⟨z0, w0⟩ : ∃ l, NdRow W A0 n0 c0 l := by
    obtain ⟨fuel, hf⟩ := h0
    exact open_nodes hf
  have k0 := h0
  have lt0 : ∀ x ∈ p0, x.block < W.heap.size := by obtain ⟨m, hm⟩ := k0; exact DataW.trod_lt m _ _ _ hm
  obtain ⟨z1, rfl⟩ := okWide_int Try.underlying3 (hval 1 3 v1 rfl rfl)
  have k1 := h1
  have lt1 : ∀ x ∈ p1, x.block < W.heap.size := by obtain ⟨m, hm⟩ := k1; exact DataW.trod_lt m _ _ _ hm
  obtain ⟨z2, rfl⟩ := okWide_int Try.underlying3 (hval 2 3 v2 rfl rfl)
  have k2 := h2
  have lt2 : ∀ x ∈ p2, x.block < W.heap.size := by obtain ⟨m, hm⟩ := k2; exact DataW.trod_lt m _ _ _ hm
  clear hA0
  have hwalk : Calls Try.prog 3 #[.slice A0 n0 c0, .int .i64 z1, .int .i64 z2] W fun e w' => e = .returned (.bool true) ∧ Below W.heap.size W w' := walk z0 A0 n0 c0 z1 z2 W w0
  refine hwalk.mono fun e W' ⟨he, hg⟩ => ?_
  subst he
  exact ⟨_, rfl, _, _, _, [], _, [], hW', trodAll_mk1 (shut_bool Try.underlying4 _), (trodAll_cons_mk (Below.trod laidOut (by kernel_rfl) (of_decide_eq_true (by kernel_rfl)) k0 hg lt0) (trodAll_cons_mk (Below.trod laidOut (by kernel_rfl) (of_decide_eq_true (by kernel_rfl)) k1 hg lt1) (trodAll_cons_mk (Below.trod laidOut (by kernel_rfl) (of_decide_eq_true (by kernel_rfl)) k2 hg lt2) trodAll_mk0))), rfl, hg.frame _, fun h => by cases h⟩
theorem reads (os : Os) {H : Type} (enc : TypeId × Value → H) : ∃ places, DataW.whole enc Try.prog ((laidW os).forCall (fun _ _ => 0) ⟨#[], #[.slice none 0 0, .int .i64 0, .int .i64 0], []⟩).memory Try.f3.params.toList Rows.formulaChecksSpec.vars false #[Value.slice none 0 0, Value.int .i64 0, Value.int .i64 0].toList 8 = some ([.nil, .lit (.int .i64 0), .lit (.int .i64 0)], [], places) :=
  ⟨[], by kernel_rfl⟩
set_option maxRecDepth 100000 in
theorem lifted (os : Os) (started : os.Started) (H : Type) (enc : TypeId × Value → H) (F : Stop.Interp) :
    ReturnsInHanded {} Try.checked os 3 .any ((OpenSpec.ofChange Rows.formulaChecksSpec).preRow enc Try.prog Try.f3 Rows.formulaChecksRow.domain false Rows.formulaChecksRow.laid) (((OpenSpec.ofChange Rows.formulaChecksSpec).at F).post enc Try.prog Try.f3 false true false false) := by
  obtain ⟨places, hx⟩ := reads os enc
  refine returnsInHanded_of_row (C := Try.checked) (s := OpenSpec.ofChange Rows.formulaChecksSpec) own started (by kernel_rfl) Try.func3
    (witness_row_at (enc := enc) (C := Try.checked) false (laidW os) #[.slice none 0 0, .int .i64 0, .int .i64 0] (laidW_os os) (vars_ok os _) (heap_ok os _) (by kernel_rfl)
      (OpenSpec.preRow_of_cond 8 hx (by kernel_rfl) (fun k hk => by cases hk) (by kernel_rfl) (laid_met os _))) ?_
  intro W base args ds gs before hval hW _ _ _ _ _ _
  exact contract H enc W base args ds gs before hval hW
theorem said : Rows.FormulaChecksSaid :=
  OpenClaim.holds_of_cond 3 Try.f3 rfl rfl rfl rfl rfl rfl rfl ⟨rfl, rfl, rfl, rfl, rfl⟩ rfl rfl rfl rfl rfl (by kernel_rfl) Try.func3 (by kernel_rfl)
    (of_decide_eq_true (by kernel_rfl)) (by unfold Func.isWrapper; first | (rw [if_pos (by decide +kernel)]; kernel_rfl) | (rw [if_neg (by decide +kernel)]; exact ⟨rfl, rfl⟩))
    (fun os started H enc _ F => by rw [OpenClaim.pre_eq_preRow]; exact lifted os started H enc F)
#print axioms said
end Go.Proofs.Ytcbmncafmofcpaa.formulaChecks
