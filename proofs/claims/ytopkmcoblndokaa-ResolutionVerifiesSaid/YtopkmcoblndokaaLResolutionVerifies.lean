/- Layer 10: ResolutionVerifies. -/
import Derived.Test.YtopkmcoblndokaaNRy
namespace Go.Proofs.Ytopkmcoblndokaa.resolutionVerifies
open Go.ChangeShapes Go.WideShapes Go.ChangeAt Go.RowKit Go.Proofs.Ytopkmcoblndokaa Go.Proofs.Ws
set_option maxRecDepth 100000
set_option maxHeartbeats 8000000 in
theorem walk (n : Int) (l : List (List Int)) (A : Option Addr) (k cap : Nat) (s : List Ln) (A2 : Option Addr) (k2 cap2 : Nat) (w : World) (hR : ZsR w w.heap.size A k l) (hk : k ≤ maxLen) (hR2 : LnsR w w.heap.size A2 k2 s) (hk2 : k2 ≤ maxLen) :
    Calls Try.prog 7 #[.int .i64 n, .slice A k cap, .slice A2 k2 cap2] w fun e w' => e = .returned (.bool true) ∧ Below w.heap.size w w' := by
  have HB0 := Lib.hid (Below.refl w.heap.size w)
  have HAW : Hid (∀ W, Below w.heap.size w W → Calls Try.prog 11 #[] W fun e w' => e = .returned (.bool true) ∧ Below W.heap.size W w') := Lib.hid (fun W _ => awake_any W)
  have HFW : Hid (∀ W, Below w.heap.size w W → Calls Try.prog 17 #[.int .i64 n, .slice A k cap] W fun e w' => e = .returned (.bool (fewB n l)) ∧ W = w') := Lib.hid (fun W hb => xFew_any n l A k cap _ W (hR.below hb hb.size) hk)
  have HV1 : Hid (∀ W, Below w.heap.size w W → Calls Try.prog 28 #[.int .i64 n, .slice A k cap, .slice A2 k2 cap2] W fun e w' => e = .returned (.int .i64 (verE n l s)) ∧ Below W.heap.size W w') := Lib.hid (fun W hb => xVerify_any n l s A k cap A2 k2 cap2 W (hR.below hb hb.size) hk (hR2.below hb hb.size) hk2)
  have HV2 : Hid (∀ W, Below w.heap.size w W → Calls Try.prog 29 #[.int .i64 n, .slice A k cap, .slice A2 k2 cap2] W fun e w' => e = .returned (.int .i64 (verE n l s)) ∧ Below W.heap.size W w') := Lib.hid (fun W hb => rVerify_any n l s A k cap A2 k2 cap2 W (hR.below hb hb.size) hk (hR2.below hb hb.size) hk2)
  have HRL := Lib.hid (fun (W : World) (hw : Below w.heap.size w W) => hR2.below hw hw.size)
  cases hf : fewB n l with
  | false =>
    rw [hf] at HFW
    clear hf HV1 HV2 hR hR2 hk hk2 HRL
    go_enter Try.func7, Try.ntmps7
    go_wp2_with fail
    refine (HFW.out _ HB0.out).mono ?_
    rintro e w1 ⟨rfl, rfl⟩
    go_wp2_with fail
    refine (HAW.out _ HB0.out).mono ?_
    rintro e w1 ⟨rfl, hb⟩
    have HB1 := Lib.hid (belowNext HB0.out hb)
    clear hb
    go_wp2
    go_ret
    exact ⟨rfl, HB1.out⟩
  | true =>
    rw [hf] at HFW
    unfold maxLen at hk2
    by_cases h200 : 200 < k2
    case pos =>
      have q1 : decide ((200 : Int) < (k2 : Int)) = true := decide_eq_true (by omega)
      have q2 : decide (200 < k2) = true := decide_eq_true (by omega)
      clear hf HV1 HV2 hR hR2 hk h200 HRL
      go_enter Try.func7, Try.ntmps7
      go_wp2_with fail
      refine (HFW.out _ HB0.out).mono ?_
      rintro e w1 ⟨rfl, rfl⟩
      go_wp2_with fail
      refine (HAW.out _ HB0.out).mono ?_
      rintro e w1 ⟨rfl, hb⟩
      have HB1 := Lib.hid (belowNext HB0.out hb)
      clear hb
      go_wp2
      go_ret
      exact ⟨rfl, HB1.out⟩
    case neg =>
      have q1 : decide ((200 : Int) < (k2 : Int)) = false := decide_eq_false (by omega)
      have q2 : decide (200 < k2) = false := decide_eq_false (by omega)
      have e1 : (verE n l s == verE n l s) = true := beq_self_eq_true _
      generalize verE n l s = E at *
      clear hf hR hR2 hk h200
      go_enter Try.func7, Try.ntmps7
      go_wp2_with fail
      refine (HFW.out _ HB0.out).mono ?_
      rintro e w1 ⟨rfl, rfl⟩
      go_wp2
      go_loopw [21] (fun i wr => ∃ j : Nat, j ≤ k2 ∧ i = .int .i64 j ∧ Hid (Below w.heap.size w wr)) (fun i _ => k2 - (intOf i).toNat)
      case atStart => exact ⟨0, Nat.zero_le _, rfl, HB0⟩
      case round =>
        obtain ⟨j, hj, rfl, HO⟩ := hrel
        by_cases hlt : j < k2
        · obtain ⟨b1, o1, Aj, cj, rfl, hb1, c0, c1, c2, c3, hlr⟩ := (HRL.out wr HO.out).at_ hlt
          have hle := hlr.le
          clear hlr
          generalize s.getD j ln0 = x at *
          obtain ⟨cl, p, q, u⟩ := x
          dsimp only at c0 c1 c2 c3 hle
          generalize cl.length = ncl at *
          unfold maxLen at hle
          have HO2 : Hid (Below w.heap.size w (wr.alloc (.cells #[.slice Aj ncl cj, .int .i64 p, .int .i64 q, .int .i64 u] 43))) := Lib.hid (HO.out.alloc HO.out.size _)
          have HLB := Lib.hid (LB.made wr (.slice Aj ncl cj) p q u)
          by_cases h5 : 20 < ncl
          · have q5 : decide ((20 : Int) < (ncl : Int)) = true := decide_eq_true (by omega)
            have q6 : decide (20 < ncl) = true := decide_eq_true h5
            have y0 := HLB.out.c0
            go_wp2_with fail
            refine (HAW.out _ HO2.out).mono ?_
            rintro e w1 ⟨rfl, hb⟩
            have HB1 := Lib.hid (belowNext HO2.out hb)
            clear hb
            go_wp2
            go_ret
            exact ⟨rfl, HB1.out⟩
          · have q5 : decide ((20 : Int) < (ncl : Int)) = false := decide_eq_false (by omega)
            have q6 : decide (20 < ncl) = false := decide_eq_false h5
            have y0 := HLB.out.c0
            go_wp2
            go_roundw
            case rel => exact ⟨j + 1, by omega, by go_num, HO2⟩
            case measure => first | (simp [intOf]; done) | (simp [intOf]; omega)
        · have HB1 := HO
          clear HO
          go_wp2_with fail
          refine (HV1.out _ HB1.out).mono ?_
          rintro e w2 ⟨rfl, hb⟩
          have HB2 := Lib.hid (belowNext HB1.out hb)
          clear hb
          go_wp2_with fail
          refine (HV2.out _ HB2.out).mono ?_
          rintro e w3 ⟨rfl, hb⟩
          have HB3 := Lib.hid (belowNext HB2.out hb)
          clear hb
          go_wp2_with fail
          refine (HAW.out _ HB3.out).mono ?_
          rintro e w4 ⟨rfl, hb⟩
          have HB4 := Lib.hid (belowNext HB3.out hb)
          clear hb
          go_wp2
          go_ret
          exact ⟨rfl, HB4.out⟩
theorem contract (H : Type) (enc : TypeId × Value → H) (W : World) (base : Nat) (args : Array Value) (ds gs : List (DataW H)) (before : List MemPlace)
    (hval : ∀ (j : Nat) t v, Try.f7.params[j]? = some t → args[j]? = some v → Value.okWide Try.prog W .any base t v)
    (hW : DataW.Whole enc Try.prog Try.f7.params.toList Rows.resolutionVerifiesSpec.vars false W args.toList ds gs before) :
    Calls Try.prog 7 args W fun e W' => ∃ v, e = .returned v ∧ Rows.resolutionVerifiesSpec.post enc Try.prog Try.f7 false true false false W args v W' := by
  have hW' := hW
  obtain ⟨p, q, hA0, hV, rfl, hfz, hnd⟩ := hW
  have hA : DataW.TrodAll enc Try.prog W 0 (fun _ => true) true Try.f7.params.toList args.toList ds p := hA0
  rw [Try.params7] at hA hval
  obtain ⟨v0, vs0, d0, ds0, p0, q0, hargs, rfl, rfl, h0, r0⟩ := trodAll_cons hA
  obtain ⟨v1, vs1, d1, ds1, p1, q1, rfl, rfl, rfl, h1, r1⟩ := trodAll_cons r0
  obtain ⟨v2, vs2, d2, ds2, p2, q2, rfl, rfl, rfl, h2, r2⟩ := trodAll_cons r1
  obtain ⟨rfl, rfl, rfl⟩ := trodAll_nil r2
  obtain rfl : args = #[v0, v1, v2] := by cases args; simp_all
  obtain ⟨rfl, rfl⟩ := trodVars_none hV
  obtain ⟨z0, rfl⟩ := okWide_int Try.underlying3 (hval 0 3 v0 rfl rfl)
  have k0 := h0
  have lt0 : ∀ x ∈ p0, x.block < W.heap.size := by obtain ⟨m, hm⟩ := k0; exact DataW.trod_lt m _ _ _ hm
  have k10 := h1
  obtain ⟨fuel1, hf1⟩ := k10
  obtain ⟨Aq1, nq1, cq1, rfl⟩ := okWide_slice Try.underlying22 (hval 1 22 v1 rfl rfl)
  obtain ⟨A1, n1, c1, z1, ev1, w1, m1⟩ := open_rows (v := .slice Aq1 nq1 cq1) hf1
  injection ev1 with ea1 eb1 ec1
  subst ea1 eb1 ec1
  have k1 := h1
  have lt1 : ∀ x ∈ p1, x.block < W.heap.size := by obtain ⟨m, hm⟩ := k1; exact DataW.trod_lt m _ _ _ hm
  have k20 := h2
  obtain ⟨fuel2, hf2⟩ := k20
  obtain ⟨Aq2, nq2, cq2, rfl⟩ := okWide_slice Try.underlying41 (hval 2 41 v2 rfl rfl)
  obtain ⟨A2, n2, c2, z2, ev2, w2, m2⟩ := open_lines (v := .slice Aq2 nq2 cq2) hf2
  injection ev2 with ea2 eb2 ec2
  subst ea2 eb2 ec2
  have k2 := h2
  have lt2 : ∀ x ∈ p2, x.block < W.heap.size := by obtain ⟨m, hm⟩ := k2; exact DataW.trod_lt m _ _ _ hm
  clear hA0
  have hwalk := walk z0 z1 Aq1 nq1 cq1 z2 Aq2 nq2 cq2 W w1 m1 w2 m2
  refine hwalk.mono fun e W' ⟨he, hg⟩ => ?_
  subst he
  exact ⟨_, rfl, _, _, _, [], _, [], hW', trodAll_mk1 (shut_bool Try.underlying4 _), (trodAll_cons_mk (Below.trod laidOut (by kernel_rfl) (of_decide_eq_true (by kernel_rfl)) k0 hg lt0) (trodAll_cons_mk (Below.trod laidOut (by kernel_rfl) (of_decide_eq_true (by kernel_rfl)) k1 hg lt1) (trodAll_cons_mk (Below.trod laidOut (by kernel_rfl) (of_decide_eq_true (by kernel_rfl)) k2 hg lt2) trodAll_mk0))), rfl, hg.frame _, fun h => by cases h⟩
theorem reads (os : Os) {H : Type} (enc : TypeId × Value → H) : ∃ places, DataW.whole enc Try.prog ((laidW os).forCall (fun _ _ => 0) ⟨#[], #[.int .i64 0, .slice none 0 0, .slice none 0 0], []⟩).memory Try.f7.params.toList Rows.resolutionVerifiesSpec.vars false #[Value.int .i64 0, Value.slice none 0 0, Value.slice none 0 0].toList 8 = some ([.lit (.int .i64 0), .nil, .nil], [], places) :=
  ⟨[], by kernel_rfl⟩
theorem lifted (os : Os) (started : os.Started) (H : Type) (enc : TypeId × Value → H) (F : Stop.Interp) :
    ReturnsInHanded {} Try.checked os 7 .any ((OpenSpec.ofChange Rows.resolutionVerifiesSpec).preRow enc Try.prog Try.f7 Rows.resolutionVerifiesRow.domain false Rows.resolutionVerifiesRow.laid) (((OpenSpec.ofChange Rows.resolutionVerifiesSpec).at F).post enc Try.prog Try.f7 false true false false) := by
  obtain ⟨places, hx⟩ := reads os enc
  refine returnsInHanded_of_row (C := Try.checked) (s := OpenSpec.ofChange Rows.resolutionVerifiesSpec) own started (by kernel_rfl) Try.func7
    (witness_row_at (enc := enc) (C := Try.checked) false (laidW os) #[.int .i64 0, .slice none 0 0, .slice none 0 0] (laidW_os os) (vars_ok os _) (heap_ok os _) (by kernel_rfl)
      (OpenSpec.preRow_of_cond 8 hx (by kernel_rfl) (fun k hk => by cases hk) (by kernel_rfl) (laid_met os _))) ?_
  intro W base args ds gs before hval hW _ _ _ _ _ _
  exact contract H enc W base args ds gs before hval hW
theorem said : Rows.ResolutionVerifiesSaid :=
  OpenClaim.holds_of_cond 7 Try.f7 rfl rfl rfl rfl rfl rfl rfl ⟨rfl, rfl, rfl, rfl, rfl⟩ rfl rfl rfl rfl rfl (by kernel_rfl) Try.func7 (by kernel_rfl)
    (of_decide_eq_true (by kernel_rfl)) (by unfold Func.isWrapper; first | (rw [if_pos (by decide +kernel)]; kernel_rfl) | (rw [if_neg (by decide +kernel)]; exact ⟨rfl, rfl⟩))
    (fun os started H enc _ F => by rw [OpenClaim.pre_eq_preRow]; exact lifted os started H enc F)
#print axioms said
end Go.Proofs.Ytopkmcoblndokaa.resolutionVerifies
