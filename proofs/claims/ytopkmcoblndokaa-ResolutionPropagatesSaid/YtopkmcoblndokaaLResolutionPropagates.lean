/- Layer 10: ResolutionPropagates. -/
import Derived.Test.YtopkmcoblndokaaNRz
namespace Go.Proofs.Ytopkmcoblndokaa.resolutionPropagates
open Go.ChangeShapes Go.WideShapes Go.ChangeAt Go.RowKit Go.Proofs.Ytopkmcoblndokaa Go.Proofs.Ws
set_option maxRecDepth 100000
/-- what both return -/
def GvP (E : Int) (L : List Int) (i : Int) (w : World) (e : Ending) (w' : World) : Prop := ∃ A c, e = .returned (.tuple #[.slice A L.length c, .int .i64 i, .int .i64 E]) ∧ OwJ w' w.heap.size A L ∧ Below w.heap.size w w'
theorem gv_of (n : Int) (l : List (List Int)) (fx : List Int) : (∀ w e w', ¬ GivesP n l fx w e w') ∨ ∃ L i, L.length ≤ maxLen ∧ ∀ w e w', GivesP n l fx w e w' → GvP (ppE n l fx) L i w e w' := by
  by_cases hz : ppE n l fx = 0
  · by_cases hx : ∃ u i, PropTo l (tsetL t00 fx) u i
    · obtain ⟨u, i, hu⟩ := hx
      by_cases hl : (litsT u).length ≤ maxLen
      · refine .inr ⟨litsT u, i, hl, ?_⟩
        rintro w e w' ⟨A, c, L2, j, h1, h2, _, h4, h5⟩
        obtain ⟨v, hv, rfl⟩ := h4 hz
        obtain ⟨rfl, rfl⟩ := hv.fn hu
        exact ⟨A, c, h1, h2, h5⟩
      · exfalso
        refine hl ?_
        have h1 := List.length_filter_le (fun x : Int => !(x == 0)) u
        have h2 : u.length = 12 := by
          have := (PropTo.tok hu (TOk.zero.setL)).len
          exact this
        unfold litsT maxLen; omega
    · refine .inl fun w e w' ⟨A, c, L, i, _, _, _, h4, _⟩ => ?_
      obtain ⟨u, hu, _⟩ := h4 hz
      exact hx ⟨u, i, hu⟩
  · refine .inr ⟨[], 0, Nat.zero_le _, ?_⟩
    rintro w e w' ⟨A, c, L, i, h1, h2, h3, _, h5⟩
    obtain ⟨rfl, rfl⟩ := h3 hz
    exact ⟨A, c, h1, h2, h5⟩
set_option maxHeartbeats 8000000 in
theorem walk (n : Int) (l : List (List Int)) (A : Option Addr) (k cap : Nat) (fx : List Int) (A2 : Option Addr) (k2 cap2 : Nat) (w : World) (hR : ZsR w w.heap.size A k l) (hk : k ≤ maxLen) (hR2 : IRow w A2 k2 cap2 fx) (hz2 : A2 = none → cap2 = 0) :
    Calls Try.prog 5 #[.int .i64 n, .slice A k cap, .slice A2 k2 cap2] w fun e w' => e = .returned (.bool true) ∧ Below w.heap.size w w' := by
  have HB0 := Lib.hid (Below.refl w.heap.size w)
  have HAW : Hid (∀ W, Below w.heap.size w W → Calls Try.prog 11 #[] W fun e w' => e = .returned (.bool true) ∧ Below W.heap.size W w') := Lib.hid (fun W _ => awake_any W)
  have HFW : Hid (∀ W, Below w.heap.size w W → Calls Try.prog 17 #[.int .i64 n, .slice A k cap] W fun e w' => e = .returned (.bool (fewB n l)) ∧ W = w') := Lib.hid (fun W hb => xFew_any n l A k cap _ W (hR.below hb hb.size) hk)
  have HP1 : Hid (∀ W, Below w.heap.size w W → Calls Try.prog 24 #[.int .i64 n, .slice A k cap, .slice A2 k2 cap2] W fun e w' => GivesP n l fx W e w') := Lib.hid (fun W hb => xPropagate_any n l fx A k cap A2 k2 cap2 W (hR.below hb hb.size) hk ((hR2.1.below hb).more hb.size) hR2.2.2)
  have HP2 : Hid (∀ W, Below w.heap.size w W → Calls Try.prog 25 #[.int .i64 n, .slice A k cap, .slice A2 k2 cap2] W fun e w' => GivesP n l fx W e w') := Lib.hid (fun W hb => rPropagate_any n l fx A k cap A2 k2 cap2 W (hR.below hb hb.size) hk ((hR2.1.below hb).more hb.size) hR2.2.2 hz2)
  have hl2 := hR2.1.int_len
  have hm2 := hR2.2.2
  unfold maxLen at hm2
  cases hf : fewB n l with
  | false =>
    rw [hf] at HFW
    clear hf HP1 HP2 hR hR2 hk hl2 hm2 hz2
    go_enter Try.func5, Try.ntmps5
    go_wp2_with fail
    refine (HFW.out _ HB0.out).mono ?_
    rintro e w1 ⟨rfl, rfl⟩
    go_wp2_with fail
    refine (HAW.out _ HB0.out).mono ?_
    rintro e w1 ⟨rfl, hb⟩
    have HB1 := Lib.hid (belowNext HB0.out hb)
    clear hb
    go_wp2
    go_ret
    exact ⟨rfl, HB1.out⟩
  | true =>
    rw [hf] at HFW
    by_cases h20 : 20 < k2
    case pos =>
      have q1 : decide ((20 : Int) < (k2 : Int)) = true := decide_eq_true (by omega)
      have q2 : decide (20 < k2) = true := decide_eq_true (by omega)
      clear hf HP1 HP2 hR hR2 hk hl2 h20 hz2
      go_enter Try.func5, Try.ntmps5
      go_wp2_with fail
      refine (HFW.out _ HB0.out).mono ?_
      rintro e w1 ⟨rfl, rfl⟩
      go_wp2_with fail
      refine (HAW.out _ HB0.out).mono ?_
      rintro e w1 ⟨rfl, hb⟩
      have HB1 := Lib.hid (belowNext HB0.out hb)
      clear hb
      go_wp2
      go_ret
      exact ⟨rfl, HB1.out⟩
    case neg =>
      have q1 : decide ((20 : Int) < (k2 : Int)) = false := decide_eq_false (by omega)
      have q2 : decide (20 < k2) = false := decide_eq_false (by omega)
      rcases gv_of n l fx with hno | ⟨RL, ci, hRL, hgv⟩
      · clear hf hR hR2 hk hl2 h20 hz2 HP2
        go_enter Try.func5, Try.ntmps5
        go_wp2_with fail
        refine (HFW.out _ HB0.out).mono ?_
        rintro e w1 ⟨rfl, rfl⟩
        go_wp2_with fail
        refine (HP1.out _ HB0.out).mono ?_
        intro e w2 h
        exact absurd h (hno _ _ _)
      · have HG1 : Hid (∀ W, Below w.heap.size w W → Calls Try.prog 24 #[.int .i64 n, .slice A k cap, .slice A2 k2 cap2] W (GvP (ppE n l fx) RL ci W)) := Lib.hid (fun W hb => (HP1.out W hb).mono (fun e w' h => hgv W e w' h))
        have HG2 : Hid (∀ W, Below w.heap.size w W → Calls Try.prog 25 #[.int .i64 n, .slice A k cap, .slice A2 k2 cap2] W (GvP (ppE n l fx) RL ci W)) := Lib.hid (fun W hb => (HP2.out W hb).mono (fun e w' h => hgv W e w' h))
        have HSM := Lib.hid (fun A A2 c1 c2 d d2 W h h2 => same_ow RL A A2 c1 c2 d d2 W h h2 hRL)
        have e1 : (ppE n l fx == ppE n l fx) = true := beq_self_eq_true _
        have e2 : (ci == ci) = true := beq_self_eq_true _
        generalize ppE n l fx = E at *
        clear hf hR hR2 hk hl2 h20 hz2 HP1 HP2 hgv hRL
        go_enter Try.func5, Try.ntmps5
        go_wp2_with fail
        refine (HFW.out _ HB0.out).mono ?_
        rintro e w1 ⟨rfl, rfl⟩
        go_wp2_with fail
        refine (HG1.out _ HB0.out).mono ?_
        rintro e w1 ⟨A5, c5, rfl, ho, hb⟩
        have HB1 := Lib.hid (belowNext HB0.out hb)
        have HO5 := Lib.hid ho
        clear hb ho
        go_wp2_with fail
        refine (HG2.out _ HB1.out).mono ?_
        rintro e w2 ⟨A6, c6, rfl, ho, hb⟩
        have HB2 := Lib.hid (belowNext HB1.out hb)
        have HO5b := Lib.hid (HO5.out.below hb)
        have HO6 := Lib.hid ho
        clear hb ho
        go_wp2_with fail
        refine (HSM.out _ _ _ _ _ _ _ HO5b.out HO6.out).mono ?_
        rintro e w8 ⟨rfl, hb⟩
        have HB3 := Lib.hid (belowNext HB2.out hb)
        clear hb
        go_wp2_with fail
        refine (HAW.out _ HB3.out).mono ?_
        rintro e w4 ⟨rfl, hb⟩
        have HB4 := Lib.hid (belowNext HB3.out hb)
        clear hb
        go_wp2
        go_ret
        exact ⟨rfl, HB4.out⟩
theorem contract (H : Type) (enc : TypeId × Value → H) (W : World) (base : Nat) (args : Array Value) (ds gs : List (DataW H)) (before : List MemPlace)
    (hval : ∀ (j : Nat) t v, Try.f5.params[j]? = some t → args[j]? = some v → Value.okWide Try.prog W .any base t v)
    (hW : DataW.Whole enc Try.prog Try.f5.params.toList Rows.resolutionPropagatesSpec.vars false W args.toList ds gs before) :
    Calls Try.prog 5 args W fun e W' => ∃ v, e = .returned v ∧ Rows.resolutionPropagatesSpec.post enc Try.prog Try.f5 false true false false W args v W' := by
  have hW' := hW
  obtain ⟨p, q, hA0, hV, rfl, hfz, hnd⟩ := hW
  have hA : DataW.TrodAll enc Try.prog W 0 (fun _ => true) true Try.f5.params.toList args.toList ds p := hA0
  rw [Try.params5] at hA hval
  obtain ⟨v0, vs0, d0, ds0, p0, q0, hargs, rfl, rfl, h0, r0⟩ := trodAll_cons hA
  obtain ⟨v1, vs1, d1, ds1, p1, q1, rfl, rfl, rfl, h1, r1⟩ := trodAll_cons r0
  obtain ⟨v2, vs2, d2, ds2, p2, q2, rfl, rfl, rfl, h2, r2⟩ := trodAll_cons r1
  obtain ⟨rfl, rfl, rfl⟩ := trodAll_nil r2
  obtain rfl : args = #[v0, v1, v2] := by cases args; simp_all
  obtain ⟨rfl, rfl⟩ := trodVars_none hV
  obtain ⟨z0, rfl⟩ := okWide_int Try.underlying3 (hval 0 3 v0 rfl rfl)
  have k0 := h0
  have lt0 : ∀ x ∈ p0, x.block < W.heap.size := by obtain ⟨m, hm⟩ := k0; exact DataW.trod_lt m _ _ _ hm
  have k10 := h1
  obtain ⟨fuel1, hf1⟩ := k10
  obtain ⟨Aq1, nq1, cq1, rfl⟩ := okWide_slice Try.underlying22 (hval 1 22 v1 rfl rfl)
  obtain ⟨A1, n1, c1, z1, ev1, w1, m1⟩ := open_rows (v := .slice Aq1 nq1 cq1) hf1
  injection ev1 with ea1 eb1 ec1
  subst ea1 eb1 ec1
  have k1 := h1
  have lt1 : ∀ x ∈ p1, x.block < W.heap.size := by obtain ⟨m, hm⟩ := k1; exact DataW.trod_lt m _ _ _ hm
  have k20 := h2
  obtain ⟨fuel2, hf2⟩ := k20
  obtain ⟨Aq2, nq2, cq2, rfl⟩ := okWide_slice Try.underlying23 (hval 2 23 v2 rfl rfl)
  obtain ⟨A2, n2, c2, z2, ev2, w2, m2⟩ := open_is1 (v := .slice Aq2 nq2 cq2) hf2
  injection ev2 with ea2 eb2 ec2
  subst ea2 eb2 ec2
  have k2 := h2
  have lt2 : ∀ x ∈ p2, x.block < W.heap.size := by obtain ⟨m, hm⟩ := k2; exact DataW.trod_lt m _ _ _ hm
  clear hA0
  have hwalk := walk z0 z1 Aq1 nq1 cq1 z2 Aq2 nq2 cq2 W w1 m1 w2 m2
  refine hwalk.mono fun e W' ⟨he, hg⟩ => ?_
  subst he
  exact ⟨_, rfl, _, _, _, [], _, [], hW', trodAll_mk1 (shut_bool Try.underlying4 _), (trodAll_cons_mk (Below.trod laidOut (by kernel_rfl) (of_decide_eq_true (by kernel_rfl)) k0 hg lt0) (trodAll_cons_mk (Below.trod laidOut (by kernel_rfl) (of_decide_eq_true (by kernel_rfl)) k1 hg lt1) (trodAll_cons_mk (Below.trod laidOut (by kernel_rfl) (of_decide_eq_true (by kernel_rfl)) k2 hg lt2) trodAll_mk0))), rfl, hg.frame _, fun h => by cases h⟩
theorem reads (os : Os) {H : Type} (enc : TypeId × Value → H) : ∃ places, DataW.whole enc Try.prog ((laidW os).forCall (fun _ _ => 0) ⟨#[], #[.int .i64 0, .slice none 0 0, .slice none 0 0], []⟩).memory Try.f5.params.toList Rows.resolutionPropagatesSpec.vars false #[Value.int .i64 0, Value.slice none 0 0, Value.slice none 0 0].toList 8 = some ([.lit (.int .i64 0), .nil, .nil], [], places) :=
  ⟨[], by kernel_rfl⟩
theorem lifted (os : Os) (started : os.Started) (H : Type) (enc : TypeId × Value → H) (F : Stop.Interp) :
    ReturnsInHanded {} Try.checked os 5 .any ((OpenSpec.ofChange Rows.resolutionPropagatesSpec).preRow enc Try.prog Try.f5 Rows.resolutionPropagatesRow.domain false Rows.resolutionPropagatesRow.laid) (((OpenSpec.ofChange Rows.resolutionPropagatesSpec).at F).post enc Try.prog Try.f5 false true false false) := by
  obtain ⟨places, hx⟩ := reads os enc
  refine returnsInHanded_of_row (C := Try.checked) (s := OpenSpec.ofChange Rows.resolutionPropagatesSpec) own started (by kernel_rfl) Try.func5
    (witness_row_at (enc := enc) (C := Try.checked) false (laidW os) #[.int .i64 0, .slice none 0 0, .slice none 0 0] (laidW_os os) (vars_ok os _) (heap_ok os _) (by kernel_rfl)
      (OpenSpec.preRow_of_cond 8 hx (by kernel_rfl) (fun k hk => by cases hk) (by kernel_rfl) (laid_met os _))) ?_
  intro W base args ds gs before hval hW _ _ _ _ _ _
  exact contract H enc W base args ds gs before hval hW
theorem said : Rows.ResolutionPropagatesSaid :=
  OpenClaim.holds_of_cond 5 Try.f5 rfl rfl rfl rfl rfl rfl rfl ⟨rfl, rfl, rfl, rfl, rfl⟩ rfl rfl rfl rfl rfl (by kernel_rfl) Try.func5 (by kernel_rfl)
    (of_decide_eq_true (by kernel_rfl)) (by unfold Func.isWrapper; first | (rw [if_pos (by decide +kernel)]; kernel_rfl) | (rw [if_neg (by decide +kernel)]; exact ⟨rfl, rfl⟩))
    (fun os started H enc _ F => by rw [OpenClaim.pre_eq_preRow]; exact lifted os started H enc F)
#print axioms said
end Go.Proofs.Ytopkmcoblndokaa.resolutionPropagates
