/- Layer 13: ModelRestricts. -/
import Derived.Test.YtofclgapgjcflaaDoorEg
import Derived.Test.YtofclgapgjcflaaDoorEc
namespace Go.Proofs.YtofclgapgjcflaaDoor.modelRestricts
open Go.ChangeShapes Go.WideShapes Go.ChangeAt Go.RowKit Go.Proofs.YtofclgapgjcflaaDoor Go.Proofs.YtofclgapgjcflaaDoor.mdl Go.Proofs.Ws
open Go.ChangeMaps (open_string shut_string)
theorem iv_ints (l : List Nat) : iv l = ints (l.map (fun x : Nat => (x : Int))) := by
  unfold iv ints
  simp
theorem restL_len (m : Mo) (s : Nat) : (restL m s).length ≤ maxLen := by
  unfold restL
  split
  · rename_i h
    have hc : csE m s = 0 := by
      unfold restE at h
      split at h
      · rename_i h1; exact h1
      · rename_i h1; exact absurd h h1
    have h1 := csE_ok hc
    have h2 := h1.1.le
    have h3 : (mem s).length ≤ 64 := mem_length_le s
    unfold maxLen; omega
  · exact Nat.zero_le _
set_option maxRecDepth 100000
set_option maxHeartbeats 16000000 in
theorem walk (m : Mo) (v : Value) (s : Nat) (w : World) (hM : MoR w w.heap.size v m) (hs : s < 18446744073709551616) (hT : Tab w) :
    Calls Tryd.prog 4 #[v, .int .u64 (s : Int)] w fun e w' => e = .returned (.bool true) ∧ Below w.heap.size w w' := by
  obtain ⟨A1, c1, A2, c2, rfl, hv, hr⟩ := hM.ex
  have HB := Lib.hid (MBox.made w m.n (.slice A1 m.val.length c1) (.slice A2 m.rel.length c2))
  have HBe : Hid (Below w.heap.size w (w.alloc (.cells #[.int .i64 m.n, .slice A1 m.val.length c1, .slice A2 m.rel.length c2] 25))) := Lib.hid ((Below.refl _ w).alloc (Nat.le_refl _) _)
  have HMW := Lib.hid (fun W (hb : Below w.heap.size w W) => hM.below hb hb.size)
  have HTW := Lib.hid (fun W (hb : Below w.heap.size w W) => hT.below hb)
  have HAW : Hid (∀ W, Below w.heap.size w W → Calls Tryd.prog 11 #[] W fun e w' => e = .returned (.bool true) ∧ Below W.heap.size W w') := Lib.hid (fun W hb => awake13_any W (hT.below hb))
  have HFW : Hid (∀ W, Below w.heap.size w W → Calls Tryd.prog 12 #[.agg #[.int .i64 m.n, .slice A1 m.val.length c1, .slice A2 m.rel.length c2]] W fun e w' => e = .returned (.bool (fewM m)) ∧ Below W.heap.size W w') := Lib.hid (fun W hb => lFew_any m _ W (HMW.out W hb))
  clear hM hv hr
  by_cases hf : fewM m = true
  case neg =>
    have hf2 : fewM m = false := by simpa using hf
    rw [hf2] at HFW
    clear hf hf2
    go_enter Tryd.func4, Tryd.ntmps4
    go_wp2_with fail
    refine (HAW.out _ HBe.out).mono ?_
    rintro e w2 ⟨rfl, hb2⟩
    have HB2 := Lib.hid (HBe.out.trans (hb2.mono HBe.out.size))
    have HX := Lib.hid (HB.out.below hb2 HB.out.lt)
    clear hb2
    have b0 := HX.out.c0
    have b1 := HX.out.c1
    have b2 := HX.out.c2
    go_wp2_with fail
    refine (HFW.out _ HB2.out).mono ?_
    rintro e w3 ⟨rfl, hb3⟩
    have HB3 := Lib.hid (HB2.out.trans (hb3.mono HB2.out.size))
    have HX3 := Lib.hid (HX.out.below hb3 HX.out.lt)
    clear hb3 b0 b1 b2
    go_wp2_with fail
    refine (HAW.out _ HB3.out).mono ?_
    rintro e w4 ⟨rfl, hb4⟩
    have HB4 := Lib.hid (HB3.out.trans (hb4.mono HB3.out.size))
    clear hb4
    go_wp2
    go_ret
    exact ⟨rfl, HB4.out⟩
  case pos =>
    rw [hf] at HFW
    clear hf
    go_enter Tryd.func4, Tryd.ntmps4
    go_wp2_with fail
    refine (HAW.out _ HBe.out).mono ?_
    rintro e w2 ⟨rfl, hb2⟩
    have HB2 := Lib.hid (HBe.out.trans (hb2.mono HBe.out.size))
    have HX := Lib.hid (HB.out.below hb2 HB.out.lt)
    clear hb2
    have b0 := HX.out.c0
    have b1 := HX.out.c1
    have b2 := HX.out.c2
    go_wp2_with fail
    refine (HFW.out _ HB2.out).mono ?_
    rintro e w3 ⟨rfl, hb3⟩
    have HB3 := Lib.hid (HB2.out.trans (hb3.mono HB2.out.size))
    have HX3 := Lib.hid (HX.out.below hb3 HX.out.lt)
    clear hb3 b0 b1 b2
    have HB := HB3
    have HX := HX3
    have hll := restL_len m s
    clear HB3 HX3 HB2
    skip
    have HX_0 := HX.out.c0
    have HX_1 := HX.out.c1
    have HX_2 := HX.out.c2
    have HX_l := HX.out.lt
    go_wp2_with fail
    clear HX_0 HX_1 HX_2 HX_l
    refine (pRestrict_any m _ s w3 (HMW.out _ HB.out) hs (HTW.out _ HB.out)).mono ?_
    rintro e w4 ⟨va, La, lca, rfl, hm, hl, hb⟩
    replace HB := Lib.hid (upB HB.out (Nat.le_refl _) hb)
    replace HX := Lib.hid (upX HX.out hb)
    clear hb
    have hm := hm.self
    obtain ⟨Pa1, Pac1, Pa2, Pac2, rfl, _, _⟩ := hm.ex
    have HMPa := Lib.hid hm
    have HLPa := Lib.hid hl
    clear hm hl
    have HX_0 := HX.out.c0
    have HX_1 := HX.out.c1
    have HX_2 := HX.out.c2
    have HX_l := HX.out.lt
    go_wp2_with fail
    clear HX_0 HX_1 HX_2 HX_l
    have hb : Below w4.heap.size w4 (w4.alloc (.cells #[.int .i64 ((restM m s).n), .slice Pa1 (restM m s).val.length Pac1, .slice Pa2 (restM m s).rel.length Pac2] 25)) := (Below.refl _ _).alloc (Nat.le_refl _) _
    have HXa := Lib.hid (MBox.made w4 ((restM m s).n) (.slice Pa1 (restM m s).val.length Pac1) (.slice Pa2 (restM m s).rel.length Pac2))
    generalize hW : w4.alloc (.cells #[.int .i64 ((restM m s).n), .slice Pa1 (restM m s).val.length Pac1, .slice Pa2 (restM m s).rel.length Pac2] 25) = w5 at *
    clear hW
    replace HB := Lib.hid (upB HB.out (Nat.le_refl _) hb)
    replace HX := Lib.hid (upX HX.out hb)
    replace HMPa := Lib.hid (upM HMPa.out hb)
    replace HLPa := Lib.hid (up13 HLPa.out hb)
    clear hb
    generalize w4.heap.size = bHXa at *
    refine (rRestrict_any m _ s w5 (HMW.out _ HB.out) hs).mono ?_
    rintro e w6 ⟨vb, Lb, lcb, rfl, hm, hl, hb⟩
    replace HB := Lib.hid (upB HB.out (Nat.le_refl _) hb)
    replace HX := Lib.hid (upX HX.out hb)
    replace HMPa := Lib.hid (upM HMPa.out hb)
    replace HLPa := Lib.hid (up13 HLPa.out hb)
    replace HXa := Lib.hid (upX HXa.out hb)
    clear hb
    have hm := hm.self
    obtain ⟨Pb1, Pbc1, Pb2, Pbc2, rfl, _, _⟩ := hm.ex
    have HMPb := Lib.hid hm
    have HLPb := Lib.hid hl
    clear hm hl
    have HX_0 := HX.out.c0
    have HX_1 := HX.out.c1
    have HX_2 := HX.out.c2
    have HX_l := HX.out.lt
    go_wp2_with fail
    clear HX_0 HX_1 HX_2 HX_l
    have hb : Below w6.heap.size w6 (w6.alloc (.cells #[.int .i64 ((restM m s).n), .slice Pb1 (restM m s).val.length Pbc1, .slice Pb2 (restM m s).rel.length Pbc2] 25)) := (Below.refl _ _).alloc (Nat.le_refl _) _
    have HXb := Lib.hid (MBox.made w6 ((restM m s).n) (.slice Pb1 (restM m s).val.length Pbc1) (.slice Pb2 (restM m s).rel.length Pbc2))
    generalize hW : w6.alloc (.cells #[.int .i64 ((restM m s).n), .slice Pb1 (restM m s).val.length Pbc1, .slice Pb2 (restM m s).rel.length Pbc2] 25) = w7 at *
    clear hW
    replace HB := Lib.hid (upB HB.out (Nat.le_refl _) hb)
    replace HX := Lib.hid (upX HX.out hb)
    replace HMPa := Lib.hid (upM HMPa.out hb)
    replace HLPa := Lib.hid (up13 HLPa.out hb)
    replace HXa := Lib.hid (upX HXa.out hb)
    replace HMPb := Lib.hid (upM HMPb.out hb)
    replace HLPb := Lib.hid (up13 HLPb.out hb)
    clear hb
    generalize w6.heap.size = bHXb at *
    refine (pGenerated_any m _ s w7 (HMW.out _ HB.out) hs (HTW.out _ HB.out)).mono ?_
    rintro e w8 ⟨rfl, hb⟩
    replace HB := Lib.hid (upB HB.out (Nat.le_refl _) hb)
    replace HX := Lib.hid (upX HX.out hb)
    replace HMPa := Lib.hid (upM HMPa.out hb)
    replace HLPa := Lib.hid (up13 HLPa.out hb)
    replace HXa := Lib.hid (upX HXa.out hb)
    replace HMPb := Lib.hid (upM HMPb.out hb)
    replace HLPb := Lib.hid (up13 HLPb.out hb)
    replace HXb := Lib.hid (upX HXb.out hb)
    clear hb
    have HX_0 := HX.out.c0
    have HX_1 := HX.out.c1
    have HX_2 := HX.out.c2
    have HX_l := HX.out.lt
    go_wp2_with fail
    clear HX_0 HX_1 HX_2 HX_l
    refine (rGenerated_any m _ s w8 (HMW.out _ HB.out) hs).mono ?_
    rintro e w9 ⟨rfl, hb⟩
    replace HB := Lib.hid (upB HB.out (Nat.le_refl _) hb)
    replace HX := Lib.hid (upX HX.out hb)
    replace HMPa := Lib.hid (upM HMPa.out hb)
    replace HLPa := Lib.hid (up13 HLPa.out hb)
    replace HXa := Lib.hid (upX HXa.out hb)
    replace HMPb := Lib.hid (upM HMPb.out hb)
    replace HLPb := Lib.hid (up13 HLPb.out hb)
    replace HXb := Lib.hid (upX HXb.out hb)
    clear hb
    have HXa_0 := HXa.out.c0
    have HXa_1 := HXa.out.c1
    have HXa_2 := HXa.out.c2
    have HXa_l := HXa.out.lt
    have HXb_0 := HXb.out.c0
    have HXb_1 := HXb.out.c1
    have HXb_2 := HXb.out.c2
    have HXb_l := HXb.out.lt
    go_wp2_with fail
    clear HXa_0 HXa_1 HXa_2 HXa_l
    clear HXb_0 HXb_1 HXb_2 HXb_l
    refine (rSame_any (restM m s) (restM m s) _ _ w9 HMPa.out HMPb.out).mono ?_
    rintro e w10 ⟨rfl, hb⟩
    replace HB := Lib.hid (upB HB.out (Nat.le_refl _) hb)
    replace HX := Lib.hid (upX HX.out hb)
    replace HMPa := Lib.hid (upM HMPa.out hb)
    replace HLPa := Lib.hid (up13 HLPa.out hb)
    replace HXa := Lib.hid (upX HXa.out hb)
    replace HMPb := Lib.hid (upM HMPb.out hb)
    replace HLPb := Lib.hid (up13 HLPb.out hb)
    replace HXb := Lib.hid (upX HXb.out hb)
    clear hb
    rw [show decide (restM m s = restM m s) = true from decide_eq_true rfl]
    go_wp2_with fail
    have ha := HLPa.out
    have hb2 := HLPb.out
    rw [iv_ints] at ha hb2
    refine (lSame_any _ _ _ _ _ _ _ _ _ w10 ha hb2 hll hll).mono ?_
    rintro e w11 ⟨rfl, q, rfl⟩
    rw [decide_eq_true (rfl : (restL m s).map (fun x : Nat => (x : Int)) = (restL m s).map (fun x : Nat => (x : Int)))]
    clear ha hb2
    go_wp2
    go_ret
    exact ⟨rfl, below_drewN HB.out q⟩
set_option maxRecDepth 100000 in
theorem contract (H : Type) (enc : TypeId × Value → H) (W : World) (base : Nat) (args : Array Value) (ds gs : List (DataW H)) (before : List MemPlace)
    (hval : ∀ (j : Nat) t v, Tryd.f4.params[j]? = some t → args[j]? = some v → Value.okWide Tryd.prog W .any base t v)
    (hW : DataW.Whole enc Tryd.prog Tryd.f4.params.toList Rows.modelRestrictsSpec.vars false W args.toList ds gs before) (hE : Tab W) :
    Calls Tryd.prog 4 args W fun e W' => ∃ v, e = .returned v ∧ Rows.modelRestrictsSpec.post enc Tryd.prog Tryd.f4 false true false false W args v W' := by
  have hW' := hW
  obtain ⟨p, q, hA0, hV, rfl, hfz, hnd⟩ := hW
  have hA : DataW.TrodAll enc Tryd.prog W 0 (fun _ => true) true Tryd.f4.params.toList args.toList ds p := hA0
  rw [Tryd.params4] at hA hval
  obtain ⟨v0, vs0, d0, ds0, p0, q0, hargs, rfl, rfl, h0, r0⟩ := trodAll_cons hA
  obtain ⟨v1, vs1, d1, ds1, p1, q1, rfl, rfl, rfl, h1, r1⟩ := trodAll_cons r0
  obtain ⟨rfl, rfl, rfl⟩ := trodAll_nil r1
  obtain rfl : args = #[v0, v1] := by cases args; simp_all
  obtain ⟨rfl, rfl⟩ := trodVars_none hV
  obtain ⟨m0, w0⟩ := open_mo (hval 0 25 v0 rfl rfl) h0
  have k0 := h0
  have lt0 : ∀ x ∈ p0, x.block < W.heap.size := by obtain ⟨m, hm⟩ := k0; exact DataW.trod_lt m _ _ _ hm
  obtain ⟨g1, rfl, rfl, rfl, w1⟩ := open_int Tryd.underlying31 (hval 1 31 v1 rfl rfl) h1
  obtain ⟨g1, rfl, hu1⟩ : ∃ n : Nat, g1 = (n : Int) ∧ n < 18446744073709551616 := by have hz := w1; have q1 : IntKind.u64.min = 0 := rfl; have q2 : IntKind.u64.max = 18446744073709551615 := rfl; simp [Lit.wf] at hz; exact ⟨g1.toNat, by omega, by omega⟩
  clear hA0
  simp only [List.append_nil] at hW'
  have hwalk := walk m0 _ g1 W w0 hu1 hE
  refine hwalk.mono fun e W' ⟨he, hg⟩ => ?_
  subst he
  exact ⟨_, rfl, _, _, _, [], _, [], hW', trodAll_mk1 (shut_bool Tryd.underlying4 _), (trodAll_cons_mk (Below.trod laidOut (by kernel_rfl) (of_decide_eq_true (by kernel_rfl)) k0 hg lt0) (trodAll_cons_mk (shut_int Tryd.underlying31 w1) trodAll_mk0)), rfl, hg.frame _, fun h => by cases h⟩
theorem reads (os : Os) {H : Type} (enc : TypeId × Value → H) : ∃ places, DataW.whole enc Tryd.prog ((laidW os).forCall (fun _ _ => 0) ⟨#[], #[.agg #[.int .i64 0, .slice none 0 0, .slice none 0 0], .int .u64 0], []⟩).memory Tryd.f4.params.toList Rows.modelRestrictsSpec.vars false #[(.agg #[.int .i64 0, .slice none 0 0, .slice none 0 0] : Value), (.int .u64 0 : Value)].toList 8 = some ([.agg [.lit (.int .i64 0), .nil, .nil], .lit (.int .u64 0)], [], places) :=
  ⟨[], by kernel_rfl⟩
set_option maxRecDepth 100000 in
theorem lifted (os : Os) (started : os.Started) (H : Type) (enc : TypeId × Value → H) (F : Stop.Interp) :
    ReturnsInHanded {} Tryd.checked os 4 .any ((OpenSpec.ofChange Rows.modelRestrictsSpec).preRow enc Tryd.prog Tryd.f4 Rows.modelRestrictsRow.domain false Rows.modelRestrictsRow.laid) (((OpenSpec.ofChange Rows.modelRestrictsSpec).at F).post enc Tryd.prog Tryd.f4 false true false false) := by
  obtain ⟨places, hx⟩ := reads os enc
  refine returnsInHanded_of_row (C := Tryd.checked) (s := OpenSpec.ofChange Rows.modelRestrictsSpec) own started (by kernel_rfl) Tryd.func4
    (witness_row_atRef (enc := enc) (C := Tryd.checked) false (laidW os) #[.agg #[.int .i64 0, .slice none 0 0, .slice none 0 0], .int .u64 0] (laidW_os os) (vars_ok os _) (heap_ok os _) (by kernel_rfl)
      (OpenSpec.preRow_of_cond 8 hx (by kernel_rfl) (fun k hk => by cases hk) (by kernel_rfl) (laid_met os _))) ?_
  intro W base args ds gs before hval hW _ _ _ hL hsh _
  exact contract H enc W base args ds gs before hval hW (env_of hL)
theorem said : Rows.ModelRestrictsSaid :=
  OpenClaim.holds_of_cond 4 Tryd.f4 rfl rfl rfl rfl rfl rfl rfl ⟨rfl, rfl, rfl, rfl, rfl⟩ rfl rfl rfl rfl rfl (by kernel_rfl) Tryd.func4 (by kernel_rfl)
    (of_decide_eq_true (by kernel_rfl)) (by unfold Func.isWrapper; first | (rw [if_pos (by decide +kernel)]; kernel_rfl) | (rw [if_neg (by decide +kernel)]; exact ⟨rfl, rfl⟩))
    (fun os started H enc _ F => by rw [OpenClaim.pre_eq_preRow]; exact lifted os started H enc F)
theorem plain (f : FuncId) (fn : Func) (hf : Tryd.pinned.checked.prog.funcNamed "witting/wittinglaw13.ModelRestricts" = some f) (hfn : Tryd.pinned.checked.prog.funcs[f]? = some fn) :
    false = Tryd.pinned.checked.prog.looks [] ∧ ∀ (j : Nat) t, fn.params[j]? = some t → Tryd.pinned.checked.prog.wantsStandIn t = false := by
  obtain rfl : f = 4 := Option.some.inj ((show Tryd.prog.funcNamed "witting/wittinglaw13.ModelRestricts" = some 4 by kernel_rfl).symm.trans hf) |>.symm
  obtain rfl : fn = Tryd.f4 := (Option.some.inj (Tryd.func4.symm.trans hfn)).symm
  refine ⟨no_looks, fun j t ht => ?_⟩
  rw [Tryd.params4] at ht
  have hm : t ∈ [25, 31] := by simpa using Array.mem_of_getElem? ht
  have hall : ([25, 31].all fun u => !Tryd.prog.wantsStandIn u) = true := by kernel_rfl
  exact (show Tryd.prog.wantsStandIn t = false by simpa using List.all_eq_true.1 hall t hm)
theorem card : Rows.ModelRestrictsCardSaid :=
  Claim7.holds_tied_plain_at .later [] _ _ _ _ said (fun _ h => by cases h) (by kernel_rfl) (fun _ h => by cases h) modelRestricts_row_tie rfl ⟨rfl, rfl⟩ (by kernel_rfl) rfl plain (by kernel_rfl)
#print axioms card
end Go.Proofs.YtofclgapgjcflaaDoor.modelRestricts
