/- FormulaCompares (P5.2): Same and Compare of the program answer as the specification does, for any two lists of nodes. No condition. -/
import Derived.Test.YtppkmapmpejhiaaMl
import Derived.Test.YtppkmapmpejhiaaMm
namespace Go.Proofs.Ytppkmapmpejhiaa.formulaCompares
open Go.ChangeShapes Go.WideShapes Go.ChangeAt Go.RowKit Go.Proofs.Ytppkmapmpejhiaa Go.Proofs.Ws
set_option maxRecDepth 100000 in
set_option maxHeartbeats 4000000 in
theorem walk (x y : List Nd) (A0 A1 : Option Addr) (n0 n1 c0 c1 : Nat) (w : World) (h0 : NdRow w A0 n0 c0 x) (h1 : NdRow w A1 n1 c1 y) :
    Calls Try.prog 5 #[.slice A0 n0 c0, .slice A1 n1 c1] w fun e w' => e = .returned (.bool true) ∧ Below w.heap.size w w' := by
  have HX := Lib.hid h0.1
  have HY := Lib.hid h1.1
  have hm0 := h0.2.2.2
  have hm1 := h1.2.2.2
  have HAW := Lib.hid (fun W => awake_any W)
  have HS1 : Hid (∀ W, Below w.heap.size w W → Calls Try.prog 34 #[.slice A0 n0 c0, .slice A1 n1 c1] W fun e w' => e = .returned (.bool (sameF x y)) ∧ Below W.heap.size W w') := Lib.hid (fun W h => pSame_any x y A0 A1 n0 n1 c0 c1 W ((HX.out.below h).more h.size) ((HY.out.below h).more h.size) hm0 hm1)
  have HS2 : Hid (∀ W, Below w.heap.size w W → Calls Try.prog 35 #[.slice A0 n0 c0, .slice A1 n1 c1] W fun e w' => e = .returned (.bool (sameF x y)) ∧ Below W.heap.size W w') := Lib.hid (fun W h => rSame_any x y A0 A1 n0 n1 c0 c1 W ((HX.out.below h).more h.size) ((HY.out.below h).more h.size) hm0 hm1)
  have HC1 : Hid (∀ W, Below w.heap.size w W → Calls Try.prog 36 #[.slice A0 n0 c0, .slice A1 n1 c1] W fun e w' => e = .returned (.int .i64 (cmpF x y)) ∧ Below W.heap.size W w') := Lib.hid (fun W h => pCompare_any x y A0 A1 n0 n1 c0 c1 W ((HX.out.below h).more h.size) ((HY.out.below h).more h.size) hm0 hm1)
  have HC2 : Hid (∀ W, Below w.heap.size w W → Calls Try.prog 37 #[.slice A0 n0 c0, .slice A1 n1 c1] W fun e w' => e = .returned (.int .i64 (cmpF x y)) ∧ Below W.heap.size W w') := Lib.hid (fun W h => rCompare_any x y A0 A1 n0 n1 c0 c1 W ((HX.out.below h).more h.size) ((HY.out.below h).more h.size) hm0 hm1)
  generalize sameF x y = bs at *
  generalize cmpF x y = zc at *
  unfold maxLen at hm0 hm1
  clear h0 h1
  have hss : (bs == bs) = true := by simp
  have hzz : (zc == zc) = true := by simp
  by_cases hbig : n0 ≤ 100 ∧ n1 ≤ 100
  · have d0 : decide (100 < (n0 : Int)) = false := decide_eq_false (by omega)
    have d1 : decide (100 < (n1 : Int)) = false := decide_eq_false (by omega)
    have e0 : decide (100 < n0) = false := decide_eq_false (by omega)
    have e1 : decide (100 < n1) = false := decide_eq_false (by omega)
    clear hbig
    go_enter Try.func5, Try.ntmps5
    go_wp2_with fail
    refine (HAW.out _).mono ?_
    rintro e w1 ⟨rfl, hb⟩
    have HB1 := Lib.hid hb
    clear hb
    go_wp2_with fail
    refine (HS1.out _ HB1.out).mono ?_
    rintro e w2 ⟨rfl, hb⟩
    have HB2 := Lib.hid (HB1.out.trans (hb.mono HB1.out.size))
    clear hb
    go_wp2_with fail
    refine (HS2.out _ HB2.out).mono ?_
    rintro e w3 ⟨rfl, hb⟩
    have HB3 := Lib.hid (HB2.out.trans (hb.mono HB2.out.size))
    clear hb
    go_wp2_with fail
    refine (HC1.out _ HB3.out).mono ?_
    rintro e w4 ⟨rfl, hb⟩
    have HB4 := Lib.hid (HB3.out.trans (hb.mono HB3.out.size))
    clear hb
    go_wp2_with fail
    refine (HC2.out _ HB4.out).mono ?_
    rintro e w5 ⟨rfl, hb⟩
    have HB5 := Lib.hid (HB4.out.trans (hb.mono HB4.out.size))
    clear hb
    go_wp2
    go_ret
    exact ⟨rfl, HB5.out⟩
  · by_cases h0 : n0 ≤ 100
    · have d0 : decide (100 < (n0 : Int)) = false := decide_eq_false (by omega)
      have d1 : decide (100 < (n1 : Int)) = true := decide_eq_true (by omega)
      have e0 : decide (100 < n0) = false := decide_eq_false (by omega)
      have e1 : decide (100 < n1) = true := decide_eq_true (by omega)
      clear hbig
      go_enter Try.func5, Try.ntmps5
      go_wp2_with fail
      refine (HAW.out _).mono ?_
      rintro e w1 ⟨rfl, hb⟩
      have HB1 := Lib.hid hb
      clear hb
      go_wp2_with fail
      refine (HAW.out _).mono ?_
      rintro e w2 ⟨rfl, hb⟩
      have HB2 := Lib.hid (HB1.out.trans (hb.mono HB1.out.size))
      clear hb
      go_wp2
      go_ret
      exact ⟨rfl, HB2.out⟩
    · have d0 : decide (100 < (n0 : Int)) = true := decide_eq_true (by omega)
      have e0 : decide (100 < n0) = true := decide_eq_true (by omega)
      clear hbig
      go_enter Try.func5, Try.ntmps5
      go_wp2_with fail
      refine (HAW.out _).mono ?_
      rintro e w1 ⟨rfl, hb⟩
      have HB1 := Lib.hid hb
      clear hb
      go_wp2_with fail
      refine (HAW.out _).mono ?_
      rintro e w2 ⟨rfl, hb⟩
      have HB2 := Lib.hid (HB1.out.trans (hb.mono HB1.out.size))
      clear hb
      go_wp2
      go_ret
      exact ⟨rfl, HB2.out⟩
set_option maxRecDepth 100000 in
theorem contract (H : Type) (enc : TypeId × Value → H) (W : World) (base : Nat) (args : Array Value) (ds gs : List (DataW H)) (before : List MemPlace)
    (hval : ∀ (j : Nat) t v, Try.f5.params[j]? = some t → args[j]? = some v → Value.okWide Try.prog W .any base t v)
    (hW : DataW.Whole enc Try.prog Try.f5.params.toList Rows.formulaComparesSpec.vars false W args.toList ds gs before) :
    Calls Try.prog 5 args W fun e W' => ∃ v, e = .returned v ∧ Rows.formulaComparesSpec.post enc Try.prog Try.f5 false true false false W args v W' := by
  have hW' := hW
  obtain ⟨p, q, hA0, hV, rfl, hfz, hnd⟩ := hW
  have hA : DataW.TrodAll enc Try.prog W 0 (fun _ => true) true Try.f5.params.toList args.toList ds p := hA0
  rw [Try.params5] at hA hval
  obtain ⟨v0, vs0, d0, ds0, p0, q0, hargs, rfl, rfl, h0, r0⟩ := trodAll_cons hA
  obtain ⟨v1, vs1, d1, ds1, p1, q1, rfl, rfl, rfl, h1, r1⟩ := trodAll_cons r0
  obtain ⟨rfl, rfl, rfl⟩ := trodAll_nil r1
  obtain rfl : args = #[v0, v1] := by cases args; simp_all
  obtain ⟨rfl, rfl⟩ := trodVars_none hV
  obtain ⟨A0, n0, c0, rfl⟩ := okWide_slice Try.underlying22 (hval 0 22 v0 rfl rfl)
  obtain ⟨z0, w0⟩ : ∃ l, NdRow W A0 n0 c0 l := by
    obtain ⟨fuel, hf⟩ := h0
    exact open_nodes hf
  have k0 := h0
  have lt0 : ∀ x ∈ p0, x.block < W.heap.size := by obtain ⟨m, hm⟩ := k0; exact DataW.trod_lt m _ _ _ hm
  obtain ⟨A1, n1, c1, rfl⟩ := okWide_slice Try.underlying22 (hval 1 22 v1 rfl rfl)
  obtain ⟨z1, w1⟩ : ∃ l, NdRow W A1 n1 c1 l := by
    obtain ⟨fuel, hf⟩ := h1
    exact open_nodes hf
  have k1 := h1
  have lt1 : ∀ x ∈ p1, x.block < W.heap.size := by obtain ⟨m, hm⟩ := k1; exact DataW.trod_lt m _ _ _ hm
  clear hA0
  have hwalk : Calls Try.prog 5 #[.slice A0 n0 c0, .slice A1 n1 c1] W fun e w' => e = .returned (.bool true) ∧ Below W.heap.size W w' := walk z0 z1 A0 A1 n0 n1 c0 c1 W w0 w1
  refine hwalk.mono fun e W' ⟨he, hg⟩ => ?_
  subst he
  exact ⟨_, rfl, _, _, _, [], _, [], hW', trodAll_mk1 (shut_bool Try.underlying4 _), (trodAll_cons_mk (Below.trod laidOut (by kernel_rfl) (of_decide_eq_true (by kernel_rfl)) k0 hg lt0) (trodAll_cons_mk (Below.trod laidOut (by kernel_rfl) (of_decide_eq_true (by kernel_rfl)) k1 hg lt1) trodAll_mk0)), rfl, hg.frame _, fun h => by cases h⟩
theorem reads (os : Os) {H : Type} (enc : TypeId × Value → H) : ∃ places, DataW.whole enc Try.prog ((laidW os).forCall (fun _ _ => 0) ⟨#[], #[.slice none 0 0, .slice none 0 0], []⟩).memory Try.f5.params.toList Rows.formulaComparesSpec.vars false #[Value.slice none 0 0, Value.slice none 0 0].toList 8 = some ([.nil, .nil], [], places) :=
  ⟨[], by kernel_rfl⟩
set_option maxRecDepth 100000 in
theorem lifted (os : Os) (started : os.Started) (H : Type) (enc : TypeId × Value → H) (F : Stop.Interp) :
    ReturnsInHanded {} Try.checked os 5 .any ((OpenSpec.ofChange Rows.formulaComparesSpec).preRow enc Try.prog Try.f5 Rows.formulaComparesRow.domain false Rows.formulaComparesRow.laid) (((OpenSpec.ofChange Rows.formulaComparesSpec).at F).post enc Try.prog Try.f5 false true false false) := by
  obtain ⟨places, hx⟩ := reads os enc
  refine returnsInHanded_of_row (C := Try.checked) (s := OpenSpec.ofChange Rows.formulaComparesSpec) own started (by kernel_rfl) Try.func5
    (witness_row_at (enc := enc) (C := Try.checked) false (laidW os) #[.slice none 0 0, .slice none 0 0] (laidW_os os) (vars_ok os _) (heap_ok os _) (by kernel_rfl)
      (OpenSpec.preRow_of_cond 8 hx (by kernel_rfl) (fun k hk => by cases hk) (by kernel_rfl) (laid_met os _))) ?_
  intro W base args ds gs before hval hW _ _ _ _ _ _
  exact contract H enc W base args ds gs before hval hW
theorem said : Rows.FormulaComparesSaid :=
  OpenClaim.holds_of_cond 5 Try.f5 rfl rfl rfl rfl rfl rfl rfl ⟨rfl, rfl, rfl, rfl, rfl⟩ rfl rfl rfl rfl rfl (by kernel_rfl) Try.func5 (by kernel_rfl)
    (of_decide_eq_true (by kernel_rfl)) (by unfold Func.isWrapper; first | (rw [if_pos (by decide +kernel)]; kernel_rfl) | (rw [if_neg (by decide +kernel)]; exact ⟨rfl, rfl⟩))
    (fun os started H enc _ F => by rw [OpenClaim.pre_eq_preRow]; exact lifted os started H enc F)
#print axioms said
end Go.Proofs.Ytppkmapmpejhiaa.formulaCompares
