/- Layer 13: ModelChecks. -/
import Derived.Test.YtofclgapgjcflaaDoorEg
import Derived.Test.YtofclgapgjcflaaDoorEc
namespace Go.Proofs.YtofclgapgjcflaaDoor.modelChecks
open Go.ChangeShapes Go.WideShapes Go.ChangeAt Go.RowKit Go.Proofs.YtofclgapgjcflaaDoor Go.Proofs.YtofclgapgjcflaaDoor.mdl Go.Proofs.Ws
open Go.ChangeMaps (open_string shut_string)
set_option maxRecDepth 100000
set_option maxHeartbeats 16000000 in
theorem walk (m : Mo) (v : Value) (x : Int) (w : World) (hM : MoR w w.heap.size v m) (hT : Tab w) :
    Calls Tryd.prog 3 #[v, .int .i64 x] w fun e w' => e = .returned (.bool true) ∧ Below w.heap.size w w' := by
  obtain ⟨A1, c1, A2, c2, rfl, hv, hr⟩ := hM.ex
  have HB := Lib.hid (MBox.made w m.n (.slice A1 m.val.length c1) (.slice A2 m.rel.length c2))
  have HBe : Hid (Below w.heap.size w (w.alloc (.cells #[.int .i64 m.n, .slice A1 m.val.length c1, .slice A2 m.rel.length c2] 25))) := Lib.hid ((Below.refl _ w).alloc (Nat.le_refl _) _)
  have HMW := Lib.hid (fun W (hb : Below w.heap.size w W) => hM.below hb hb.size)
  have HTW := Lib.hid (fun W (hb : Below w.heap.size w W) => hT.below hb)
  have HAW : Hid (∀ W, Below w.heap.size w W → Calls Tryd.prog 11 #[] W fun e w' => e = .returned (.bool true) ∧ Below W.heap.size W w') := Lib.hid (fun W hb => awake13_any W (hT.below hb))
  have HFW : Hid (∀ W, Below w.heap.size w W → Calls Tryd.prog 12 #[.agg #[.int .i64 m.n, .slice A1 m.val.length c1, .slice A2 m.rel.length c2]] W fun e w' => e = .returned (.bool (fewM m)) ∧ Below W.heap.size W w') := Lib.hid (fun W hb => lFew_any m _ W (HMW.out W hb))
  clear hM hv hr
  by_cases hf : fewM m = true
  case neg =>
    have hf2 : fewM m = false := by simpa using hf
    rw [hf2] at HFW
    clear hf hf2
    go_enter Tryd.func3, Tryd.ntmps3
    go_wp2_with fail
    refine (HAW.out _ HBe.out).mono ?_
    rintro e w2 ⟨rfl, hb2⟩
    have HB2 := Lib.hid (HBe.out.trans (hb2.mono HBe.out.size))
    have HX := Lib.hid (HB.out.below hb2 HB.out.lt)
    clear hb2
    have b0 := HX.out.c0
    have b1 := HX.out.c1
    have b2 := HX.out.c2
    go_wp2_with fail
    refine (HFW.out _ HB2.out).mono ?_
    rintro e w3 ⟨rfl, hb3⟩
    have HB3 := Lib.hid (HB2.out.trans (hb3.mono HB2.out.size))
    have HX3 := Lib.hid (HX.out.below hb3 HX.out.lt)
    clear hb3 b0 b1 b2
    go_wp2_with fail
    refine (HAW.out _ HB3.out).mono ?_
    rintro e w4 ⟨rfl, hb4⟩
    have HB4 := Lib.hid (HB3.out.trans (hb4.mono HB3.out.size))
    clear hb4
    go_wp2
    go_ret
    exact ⟨rfl, HB4.out⟩
  case pos =>
    rw [hf] at HFW
    clear hf
    go_enter Tryd.func3, Tryd.ntmps3
    go_wp2_with fail
    refine (HAW.out _ HBe.out).mono ?_
    rintro e w2 ⟨rfl, hb2⟩
    have HB2 := Lib.hid (HBe.out.trans (hb2.mono HBe.out.size))
    have HX := Lib.hid (HB.out.below hb2 HB.out.lt)
    clear hb2
    have b0 := HX.out.c0
    have b1 := HX.out.c1
    have b2 := HX.out.c2
    go_wp2_with fail
    refine (HFW.out _ HB2.out).mono ?_
    rintro e w3 ⟨rfl, hb3⟩
    have HB3 := Lib.hid (HB2.out.trans (hb3.mono HB2.out.size))
    have HX3 := Lib.hid (HX.out.below hb3 HX.out.lt)
    clear hb3 b0 b1 b2
    have K1 : Hid (∀ W, Hid (Below w3.heap.size w3 W) → Calls Tryd.prog 13 #[.agg #[.int .i64 m.n, .slice A1 m.val.length c1, .slice A2 m.rel.length c2]] W fun e w' => e = .returned (.int .i64 (chkM m)) ∧ Hid (Below w3.heap.size w3 w')) := Lib.hid (fun W h => (pCheck_any m _ W (HMW.out W (HB3.out.trans (h.out.mono HB3.out.size)))).mono (by rintro e w' ⟨rfl, hb⟩; exact ⟨rfl, Lib.hid (h.out.trans (hb.mono h.out.size))⟩))
    have K2 : Hid (∀ W, Hid (Below w3.heap.size w3 W) → Calls Tryd.prog 14 #[.agg #[.int .i64 m.n, .slice A1 m.val.length c1, .slice A2 m.rel.length c2]] W fun e w' => e = .returned (.int .i64 (chkM m)) ∧ Hid (Below w3.heap.size w3 w')) := Lib.hid (fun W h => (rCheck_any m _ W (HMW.out W (HB3.out.trans (h.out.mono HB3.out.size)))).mono (by rintro e w' ⟨rfl, hb⟩; exact ⟨rfl, Lib.hid (h.out.trans (hb.mono h.out.size))⟩))
    have K3 : Hid (∀ W, Hid (Below w3.heap.size w3 W) → Calls Tryd.prog 15 #[.agg #[.int .i64 m.n, .slice A1 m.val.length c1, .slice A2 m.rel.length c2], .int .i64 x] W fun e w' => e = .returned (.int .i64 (factV m x)) ∧ Hid (Below w3.heap.size w3 w')) := Lib.hid (fun W h => (pFacts_any m _ x W (HMW.out W (HB3.out.trans (h.out.mono HB3.out.size)))).mono (by rintro e w' ⟨rfl, hb⟩; exact ⟨rfl, Lib.hid (h.out.trans (hb.mono h.out.size))⟩))
    have K4 : Hid (∀ W, Hid (Below w3.heap.size w3 W) → Calls Tryd.prog 16 #[.agg #[.int .i64 m.n, .slice A1 m.val.length c1, .slice A2 m.rel.length c2], .int .i64 x] W fun e w' => e = .returned (.int .i64 (factV m x)) ∧ Hid (Below w3.heap.size w3 w')) := Lib.hid (fun W h => (rFacts_any m _ x W (HMW.out W (HB3.out.trans (h.out.mono HB3.out.size)))).mono (by rintro e w' ⟨rfl, hb⟩; exact ⟨rfl, Lib.hid (h.out.trans (hb.mono h.out.size))⟩))
    have HSS : Hid (∀ W, Hid (Below w3.heap.size w3 W) → W.cell? ⟨w.heap.size, 0, none⟩ = some (.int .i64 m.n) ∧ W.cell? ⟨w.heap.size, 1, none⟩ = some (.slice A1 m.val.length c1) ∧ W.cell? ⟨w.heap.size, 2, none⟩ = some (.slice A2 m.rel.length c2) ∧ Hid (Below w3.heap.size w3 W)) := Lib.hid (fun W h => by
      have x1 := HX3.out.below h.out HX3.out.lt
      exact ⟨x1.c0, x1.c1, x1.c2, h⟩)
    have hbq : Hid (Below w3.heap.size w3 w3.drew) := Lib.hid (Below.refl _ w3).drew
    have HS0 := HSS.out w3.drew hbq
    obtain ⟨d0, d1, d2, _⟩ := HS0
    have e0 := HX3.out.c0
    have e1 := HX3.out.c1
    have e2 := HX3.out.c2
    generalize chkM m = cm at *
    generalize factV m x = fv at *
    go_wp2
    clear e0 e1 e2
    go_region_held3 (fun W => W.cell? ⟨w.heap.size, 0, none⟩ = some (.int .i64 m.n) ∧ W.cell? ⟨w.heap.size, 1, none⟩ = some (.slice A1 m.val.length c1) ∧ W.cell? ⟨w.heap.size, 2, none⟩ = some (.slice A2 m.rel.length c2) ∧ Hid (Below w3.heap.size w3 W)) (first | with_reducible exact HSS.out _ hbq) (first
      | (go_at_call 13; refine (K1.out _ hbq).mono ?_; rintro e W' ⟨rfl, hbq⟩)
      | (go_at_call 14; refine (K2.out _ hbq).mono ?_; rintro e W' ⟨rfl, hbq⟩)
      | (go_at_call 15; refine (K3.out _ hbq).mono ?_; rintro e W' ⟨rfl, hbq⟩)
      | (go_at_call 16; refine (K4.out _ hbq).mono ?_; rintro e W' ⟨rfl, hbq⟩))
    all_goals go_wp2
    all_goals go_ret
    all_goals exact ⟨ret_bool (by simp), HB3.out.trans (hbq.out.mono HB3.out.size)⟩
set_option maxRecDepth 100000 in
theorem contract (H : Type) (enc : TypeId × Value → H) (W : World) (base : Nat) (args : Array Value) (ds gs : List (DataW H)) (before : List MemPlace)
    (hval : ∀ (j : Nat) t v, Tryd.f3.params[j]? = some t → args[j]? = some v → Value.okWide Tryd.prog W .any base t v)
    (hW : DataW.Whole enc Tryd.prog Tryd.f3.params.toList Rows.modelChecksSpec.vars false W args.toList ds gs before) (hE : Tab W) :
    Calls Tryd.prog 3 args W fun e W' => ∃ v, e = .returned v ∧ Rows.modelChecksSpec.post enc Tryd.prog Tryd.f3 false true false false W args v W' := by
  have hW' := hW
  obtain ⟨p, q, hA0, hV, rfl, hfz, hnd⟩ := hW
  have hA : DataW.TrodAll enc Tryd.prog W 0 (fun _ => true) true Tryd.f3.params.toList args.toList ds p := hA0
  rw [Tryd.params3] at hA hval
  obtain ⟨v0, vs0, d0, ds0, p0, q0, hargs, rfl, rfl, h0, r0⟩ := trodAll_cons hA
  obtain ⟨v1, vs1, d1, ds1, p1, q1, rfl, rfl, rfl, h1, r1⟩ := trodAll_cons r0
  obtain ⟨rfl, rfl, rfl⟩ := trodAll_nil r1
  obtain rfl : args = #[v0, v1] := by cases args; simp_all
  obtain ⟨rfl, rfl⟩ := trodVars_none hV
  obtain ⟨m0, w0⟩ := open_mo (hval 0 25 v0 rfl rfl) h0
  have k0 := h0
  have lt0 : ∀ x ∈ p0, x.block < W.heap.size := by obtain ⟨m, hm⟩ := k0; exact DataW.trod_lt m _ _ _ hm
  obtain ⟨g1, rfl, rfl, rfl, w1⟩ := open_int Tryd.underlying3 (hval 1 3 v1 rfl rfl) h1
  clear hA0
  simp only [List.append_nil] at hW'
  have hwalk := walk m0 _ g1 W w0 hE
  refine hwalk.mono fun e W' ⟨he, hg⟩ => ?_
  subst he
  exact ⟨_, rfl, _, _, _, [], _, [], hW', trodAll_mk1 (shut_bool Tryd.underlying4 _), (trodAll_cons_mk (Below.trod laidOut (by kernel_rfl) (of_decide_eq_true (by kernel_rfl)) k0 hg lt0) (trodAll_cons_mk (shut_int Tryd.underlying3 w1) trodAll_mk0)), rfl, hg.frame _, fun h => by cases h⟩
theorem reads (os : Os) {H : Type} (enc : TypeId × Value → H) : ∃ places, DataW.whole enc Tryd.prog ((laidW os).forCall (fun _ _ => 0) ⟨#[], #[.agg #[.int .i64 0, .slice none 0 0, .slice none 0 0], .int .i64 0], []⟩).memory Tryd.f3.params.toList Rows.modelChecksSpec.vars false #[(.agg #[.int .i64 0, .slice none 0 0, .slice none 0 0] : Value), (.int .i64 0 : Value)].toList 8 = some ([.agg [.lit (.int .i64 0), .nil, .nil], .lit (.int .i64 0)], [], places) :=
  ⟨[], by kernel_rfl⟩
set_option maxRecDepth 100000 in
theorem lifted (os : Os) (started : os.Started) (H : Type) (enc : TypeId × Value → H) (F : Stop.Interp) :
    ReturnsInHanded {} Tryd.checked os 3 .any ((OpenSpec.ofChange Rows.modelChecksSpec).preRow enc Tryd.prog Tryd.f3 Rows.modelChecksRow.domain false Rows.modelChecksRow.laid) (((OpenSpec.ofChange Rows.modelChecksSpec).at F).post enc Tryd.prog Tryd.f3 false true false false) := by
  obtain ⟨places, hx⟩ := reads os enc
  refine returnsInHanded_of_row (C := Tryd.checked) (s := OpenSpec.ofChange Rows.modelChecksSpec) own started (by kernel_rfl) Tryd.func3
    (witness_row_atRef (enc := enc) (C := Tryd.checked) false (laidW os) #[.agg #[.int .i64 0, .slice none 0 0, .slice none 0 0], .int .i64 0] (laidW_os os) (vars_ok os _) (heap_ok os _) (by kernel_rfl)
      (OpenSpec.preRow_of_cond 8 hx (by kernel_rfl) (fun k hk => by cases hk) (by kernel_rfl) (laid_met os _))) ?_
  intro W base args ds gs before hval hW _ _ _ hL hsh _
  exact contract H enc W base args ds gs before hval hW (env_of hL)
theorem said : Rows.ModelChecksSaid :=
  OpenClaim.holds_of_cond 3 Tryd.f3 rfl rfl rfl rfl rfl rfl rfl ⟨rfl, rfl, rfl, rfl, rfl⟩ rfl rfl rfl rfl rfl (by kernel_rfl) Tryd.func3 (by kernel_rfl)
    (of_decide_eq_true (by kernel_rfl)) (by unfold Func.isWrapper; first | (rw [if_pos (by decide +kernel)]; kernel_rfl) | (rw [if_neg (by decide +kernel)]; exact ⟨rfl, rfl⟩))
    (fun os started H enc _ F => by rw [OpenClaim.pre_eq_preRow]; exact lifted os started H enc F)
theorem plain (f : FuncId) (fn : Func) (hf : Tryd.pinned.checked.prog.funcNamed "witting/wittinglaw13.ModelChecks" = some f) (hfn : Tryd.pinned.checked.prog.funcs[f]? = some fn) :
    false = Tryd.pinned.checked.prog.looks [] ∧ ∀ (j : Nat) t, fn.params[j]? = some t → Tryd.pinned.checked.prog.wantsStandIn t = false := by
  obtain rfl : f = 3 := Option.some.inj ((show Tryd.prog.funcNamed "witting/wittinglaw13.ModelChecks" = some 3 by kernel_rfl).symm.trans hf) |>.symm
  obtain rfl : fn = Tryd.f3 := (Option.some.inj (Tryd.func3.symm.trans hfn)).symm
  refine ⟨no_looks, fun j t ht => ?_⟩
  rw [Tryd.params3] at ht
  have hm : t ∈ [25, 3] := by simpa using Array.mem_of_getElem? ht
  have hall : ([25, 3].all fun u => !Tryd.prog.wantsStandIn u) = true := by kernel_rfl
  exact (show Tryd.prog.wantsStandIn t = false by simpa using List.all_eq_true.1 hall t hm)
theorem card : Rows.ModelChecksCardSaid :=
  Claim7.holds_tied_plain_at .later [] _ _ _ _ said (fun _ h => by cases h) (by kernel_rfl) (fun _ h => by cases h) modelChecks_row_tie rfl ⟨rfl, rfl⟩ (by kernel_rfl) rfl plain (by kernel_rfl)
#print axioms card
end Go.Proofs.YtofclgapgjcflaaDoor.modelChecks
