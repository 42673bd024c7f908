/- Layer 10: ResolutionChecks. -/
import Derived.Test.YtopkmcoblndokaaNRu
namespace Go.Proofs.Ytopkmcoblndokaa.resolutionChecks
open Go.ChangeShapes Go.WideShapes Go.ChangeAt Go.RowKit Go.Proofs.Ytopkmcoblndokaa Go.Proofs.Ws
set_option maxRecDepth 100000
theorem nL_len (c : List Int) : (nL c).length ≤ maxLen := by
  unfold nL
  split
  · have := nrm_len c; unfold maxLen; omega
  · exact Nat.zero_le _
set_option maxHeartbeats 8000000 in
theorem walk (n : Int) (l : List (List Int)) (A : Option Addr) (k cap : Nat) (c : List Int) (A2 : Option Addr) (k2 cap2 : Nat) (w : World) (hR : ZsR w w.heap.size A k l) (hk : k ≤ maxLen) (hR2 : IRow w A2 k2 cap2 c) :
    Calls Try.prog 3 #[.int .i64 n, .slice A k cap, .slice A2 k2 cap2] w fun e w' => e = .returned (.bool true) ∧ Below w.heap.size w w' := by
  have HB0 := Lib.hid (Below.refl w.heap.size w)
  have HAW : Hid (∀ W, Below w.heap.size w W → Calls Try.prog 11 #[] W fun e w' => e = .returned (.bool true) ∧ Below W.heap.size W w') := Lib.hid (fun W _ => awake_any W)
  have HN1 : Hid (∀ W, Below w.heap.size w W → Calls Try.prog 12 #[.slice A2 k2 cap2] W fun e w' => GivesN (nL c) (nA c) (nE c) W e w') := Lib.hid (fun W hb => xNormal_any c A2 k2 cap2 W ((hR2.1.below hb).more hb.size) hR2.2.2)
  have HN2 : Hid (∀ W, Below w.heap.size w W → Calls Try.prog 13 #[.slice A2 k2 cap2] W fun e w' => GivesN (nL c) (nA c) (nE c) W e w') := Lib.hid (fun W hb => rNormal_any c A2 k2 cap2 W.heap.size W (Nat.le_refl _) ((hR2.1.below hb).more hb.size) hR2.2.2)
  have HC1 : Hid (∀ W, Below w.heap.size w W → Calls Try.prog 14 #[.int .i64 n, .slice A k cap] W fun e w' => e = .returned (.int .i64 (chkR n l)) ∧ W = w') := Lib.hid (fun W hb => xCheck_any n l A k cap _ W (hR.below hb hb.size) hk)
  have HC2 : Hid (∀ W, Below w.heap.size w W → Calls Try.prog 15 #[.int .i64 n, .slice A k cap] W fun e w' => e = .returned (.int .i64 (chkR n l)) ∧ Below W.heap.size W w') := Lib.hid (fun W hb => rCheck_any n l A k cap _ W (Nat.le_refl _) (hR.below hb hb.size) hk)
  have HSM := Lib.hid (fun A A2 c1 c2 b b2 W h h2 => same_ow (nL c) A A2 c1 c2 b b2 W h h2 (nL_len c))
  have hm2 := hR2.2.2
  unfold maxLen at hm2 hk
  have HR := Lib.hid hR
  have HL := Lib.hid hR.len
  by_cases h1 : 100 < k
  · have q1 : decide ((100 : Int) < (k : Int)) = true := decide_eq_true (by omega)
    have q2 : decide (100 < k) = true := decide_eq_true h1
    clear HN1 HN2 HC1 HC2 HSM hR hR2 h1
    go_enter Try.func3, Try.ntmps3
    go_wp2_with fail
    refine (HAW.out _ HB0.out).mono ?_
    rintro e w1 ⟨rfl, hb⟩
    have HB1 := Lib.hid (belowNext HB0.out hb)
    clear hb
    go_wp2
    go_ret
    exact ⟨rfl, HB1.out⟩
  · have q1 : decide ((100 : Int) < (k : Int)) = false := decide_eq_false (by omega)
    have q2 : decide (100 < k) = false := decide_eq_false h1
    by_cases h2 : 100 < k2
    · have q3 : decide ((100 : Int) < (k2 : Int)) = true := decide_eq_true (by omega)
      have q4 : decide (100 < k2) = true := decide_eq_true h2
      clear HN1 HN2 HC1 HC2 HSM hR hR2 h1 h2
      go_enter Try.func3, Try.ntmps3
      go_wp2_with fail
      refine (HAW.out _ HB0.out).mono ?_
      rintro e w1 ⟨rfl, hb⟩
      have HB1 := Lib.hid (belowNext HB0.out hb)
      clear hb
      go_wp2
      go_ret
      exact ⟨rfl, HB1.out⟩
    · have q3 : decide ((100 : Int) < (k2 : Int)) = false := decide_eq_false (by omega)
      have q4 : decide (100 < k2) = false := decide_eq_false h2
      have hxx : (chkR n l == chkR n l) = true := beq_self_eq_true _
      have hyy : (nE c == nE c) = true := beq_self_eq_true _
      have hzz : (nA c == nA c) = true := beq_self_eq_true _
      generalize chkR n l = E at *
      generalize nE c = E2 at *
      generalize nA c = b2 at *
      generalize nL c = L2 at *
      clear hR hR2 h1 h2
      go_enter Try.func3, Try.ntmps3
      go_wp2
      go_loopw [26] (fun i wr => ∃ j : Nat, j ≤ k ∧ i = .int .i64 j ∧ w = wr) (fun i _ => k - (intOf i).toNat)
      case atStart => exact ⟨0, Nat.zero_le _, rfl, by first | rfl | trivial⟩
      case round =>
        obtain ⟨j, hj, rfl, rfl⟩ := hrel
        by_cases hlt : j < k
        · obtain ⟨ad, Aj, cj, rfl, _, hcj, _, hlj⟩ := HR.out.at_ hlt
          generalize (l.getD j []).length = nj at *
          unfold maxLen at hlj
          by_cases h5 : 100 < nj
          · have q5 : decide ((100 : Int) < (nj : Int)) = true := decide_eq_true (by omega)
            have q6 : decide (100 < nj) = true := decide_eq_true h5
            go_wp2_with fail
            refine (HAW.out _ HB0.out).mono ?_
            rintro e w1 ⟨rfl, hb⟩
            have HB1 := Lib.hid (belowNext HB0.out hb)
            clear hb
            go_wp2
            go_ret
            exact ⟨rfl, HB1.out⟩
          · have q5 : decide ((100 : Int) < (nj : Int)) = false := decide_eq_false (by omega)
            have q6 : decide (100 < nj) = false := decide_eq_false h5
            go_wp2
            go_roundw
            case rel => exact ⟨j + 1, by omega, by go_num, by first | rfl | trivial⟩
            case measure => first | (simp [intOf]; done) | (simp [intOf]; omega)
        · go_wp2_with fail
          refine (HN1.out _ HB0.out).mono ?_
          rintro e w1 ⟨A5, c5, rfl, ho, _, hb⟩
          have HB1 := Lib.hid (belowNext HB0.out hb)
          have HO5 := Lib.hid ho
          clear hb ho
          go_wp2_with fail
          refine (HN2.out _ HB1.out).mono ?_
          rintro e w2 ⟨A6, c6, rfl, ho, _, hb⟩
          have HB2 := Lib.hid (belowNext HB1.out hb)
          have HO5b := Lib.hid (HO5.out.below hb)
          have HO6 := Lib.hid ho
          clear hb ho
          go_wp2_with fail
          refine (HC1.out _ HB2.out).mono ?_
          rintro e w9 ⟨rfl, rfl⟩
          go_wp2_with fail
          refine (HC2.out _ HB2.out).mono ?_
          rintro e w3 ⟨rfl, hb⟩
          have HB3 := Lib.hid (belowNext HB2.out hb)
          have HO5c := Lib.hid (HO5b.out.below hb)
          have HO6c := Lib.hid (HO6.out.below hb)
          clear hb
          go_wp2_with fail
          refine (HSM.out _ _ _ _ _ _ _ HO5c.out HO6c.out).mono ?_
          rintro e w8 ⟨rfl, hb⟩
          have HB4 := Lib.hid (belowNext HB3.out hb)
          clear hb
          go_wp2_with fail
          refine (HAW.out _ HB4.out).mono ?_
          rintro e w5 ⟨rfl, hb⟩
          have HB5 := Lib.hid (belowNext HB4.out hb)
          clear hb
          go_wp2
          go_ret
          exact ⟨rfl, HB5.out⟩
theorem contract (H : Type) (enc : TypeId × Value → H) (W : World) (base : Nat) (args : Array Value) (ds gs : List (DataW H)) (before : List MemPlace)
    (hval : ∀ (j : Nat) t v, Try.f3.params[j]? = some t → args[j]? = some v → Value.okWide Try.prog W .any base t v)
    (hW : DataW.Whole enc Try.prog Try.f3.params.toList Rows.resolutionChecksSpec.vars false W args.toList ds gs before) :
    Calls Try.prog 3 args W fun e W' => ∃ v, e = .returned v ∧ Rows.resolutionChecksSpec.post enc Try.prog Try.f3 false true false false W args v W' := by
  have hW' := hW
  obtain ⟨p, q, hA0, hV, rfl, hfz, hnd⟩ := hW
  have hA : DataW.TrodAll enc Try.prog W 0 (fun _ => true) true Try.f3.params.toList args.toList ds p := hA0
  rw [Try.params3] at hA hval
  obtain ⟨v0, vs0, d0, ds0, p0, q0, hargs, rfl, rfl, h0, r0⟩ := trodAll_cons hA
  obtain ⟨v1, vs1, d1, ds1, p1, q1, rfl, rfl, rfl, h1, r1⟩ := trodAll_cons r0
  obtain ⟨v2, vs2, d2, ds2, p2, q2, rfl, rfl, rfl, h2, r2⟩ := trodAll_cons r1
  obtain ⟨rfl, rfl, rfl⟩ := trodAll_nil r2
  obtain rfl : args = #[v0, v1, v2] := by cases args; simp_all
  obtain ⟨rfl, rfl⟩ := trodVars_none hV
  obtain ⟨z0, rfl⟩ := okWide_int Try.underlying3 (hval 0 3 v0 rfl rfl)
  have k0 := h0
  have lt0 : ∀ x ∈ p0, x.block < W.heap.size := by obtain ⟨m, hm⟩ := k0; exact DataW.trod_lt m _ _ _ hm
  have k10 := h1
  obtain ⟨fuel1, hf1⟩ := k10
  obtain ⟨Aq1, nq1, cq1, rfl⟩ := okWide_slice Try.underlying22 (hval 1 22 v1 rfl rfl)
  obtain ⟨A1, n1, c1, z1, ev1, w1, m1⟩ := open_rows (v := .slice Aq1 nq1 cq1) hf1
  injection ev1 with ea1 eb1 ec1
  subst ea1 eb1 ec1
  have k1 := h1
  have lt1 : ∀ x ∈ p1, x.block < W.heap.size := by obtain ⟨m, hm⟩ := k1; exact DataW.trod_lt m _ _ _ hm
  have k20 := h2
  obtain ⟨fuel2, hf2⟩ := k20
  obtain ⟨Aq2, nq2, cq2, rfl⟩ := okWide_slice Try.underlying23 (hval 2 23 v2 rfl rfl)
  obtain ⟨A2, n2, c2, z2, ev2, w2⟩ := open_is0 (v := .slice Aq2 nq2 cq2) hf2
  injection ev2 with ea2 eb2 ec2
  subst ea2 eb2 ec2
  have k2 := h2
  have lt2 : ∀ x ∈ p2, x.block < W.heap.size := by obtain ⟨m, hm⟩ := k2; exact DataW.trod_lt m _ _ _ hm
  clear hA0
  have hwalk := walk z0 z1 Aq1 nq1 cq1 z2 Aq2 nq2 cq2 W w1 m1 w2
  refine hwalk.mono fun e W' ⟨he, hg⟩ => ?_
  subst he
  exact ⟨_, rfl, _, _, _, [], _, [], hW', trodAll_mk1 (shut_bool Try.underlying4 _), (trodAll_cons_mk (Below.trod laidOut (by kernel_rfl) (of_decide_eq_true (by kernel_rfl)) k0 hg lt0) (trodAll_cons_mk (Below.trod laidOut (by kernel_rfl) (of_decide_eq_true (by kernel_rfl)) k1 hg lt1) (trodAll_cons_mk (Below.trod laidOut (by kernel_rfl) (of_decide_eq_true (by kernel_rfl)) k2 hg lt2) trodAll_mk0))), rfl, hg.frame _, fun h => by cases h⟩
theorem reads (os : Os) {H : Type} (enc : TypeId × Value → H) : ∃ places, DataW.whole enc Try.prog ((laidW os).forCall (fun _ _ => 0) ⟨#[], #[.int .i64 0, .slice none 0 0, .slice none 0 0], []⟩).memory Try.f3.params.toList Rows.resolutionChecksSpec.vars false #[Value.int .i64 0, Value.slice none 0 0, Value.slice none 0 0].toList 8 = some ([.lit (.int .i64 0), .nil, .nil], [], places) :=
  ⟨[], by kernel_rfl⟩
theorem lifted (os : Os) (started : os.Started) (H : Type) (enc : TypeId × Value → H) (F : Stop.Interp) :
    ReturnsInHanded {} Try.checked os 3 .any ((OpenSpec.ofChange Rows.resolutionChecksSpec).preRow enc Try.prog Try.f3 Rows.resolutionChecksRow.domain false Rows.resolutionChecksRow.laid) (((OpenSpec.ofChange Rows.resolutionChecksSpec).at F).post enc Try.prog Try.f3 false true false false) := by
  obtain ⟨places, hx⟩ := reads os enc
  refine returnsInHanded_of_row (C := Try.checked) (s := OpenSpec.ofChange Rows.resolutionChecksSpec) own started (by kernel_rfl) Try.func3
    (witness_row_at (enc := enc) (C := Try.checked) false (laidW os) #[.int .i64 0, .slice none 0 0, .slice none 0 0] (laidW_os os) (vars_ok os _) (heap_ok os _) (by kernel_rfl)
      (OpenSpec.preRow_of_cond 8 hx (by kernel_rfl) (fun k hk => by cases hk) (by kernel_rfl) (laid_met os _))) ?_
  intro W base args ds gs before hval hW _ _ _ _ _ _
  exact contract H enc W base args ds gs before hval hW
theorem said : Rows.ResolutionChecksSaid :=
  OpenClaim.holds_of_cond 3 Try.f3 rfl rfl rfl rfl rfl rfl rfl ⟨rfl, rfl, rfl, rfl, rfl⟩ rfl rfl rfl rfl rfl (by kernel_rfl) Try.func3 (by kernel_rfl)
    (of_decide_eq_true (by kernel_rfl)) (by unfold Func.isWrapper; first | (rw [if_pos (by decide +kernel)]; kernel_rfl) | (rw [if_neg (by decide +kernel)]; exact ⟨rfl, rfl⟩))
    (fun os started H enc _ F => by rw [OpenClaim.pre_eq_preRow]; exact lifted os started H enc F)
#print axioms said
end Go.Proofs.Ytopkmcoblndokaa.resolutionChecks
