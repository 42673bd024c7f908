/- Layer 13: ModelGroups. -/
import Derived.Test.YtofclgapgjcflaaDoorEg
import Derived.Test.YtofclgapgjcflaaDoorEc
namespace Go.Proofs.YtofclgapgjcflaaDoor.modelGroups
open Go.ChangeShapes Go.WideShapes Go.ChangeAt Go.RowKit Go.Proofs.YtofclgapgjcflaaDoor Go.Proofs.YtofclgapgjcflaaDoor.mdl Go.Proofs.Ws
open Go.ChangeMaps (open_string shut_string)
theorem group_len (m : Mo) (gi : Int) : (groupL m gi).length ≤ maxLen ∧ (meetL m gi).length ≤ maxLen := by
  unfold groupL meetL
  by_cases h : isG m gi = true
  · have hz : chkM m = 0 := by
      unfold isG at h
      rw [Bool.and_eq_true, Bool.and_eq_true] at h
      exact of_decide_eq_true h.1.1
    have := (chkM_ok hz).le
    rw [if_pos h, if_pos h]
    simp only [List.length_map, List.length_range]
    unfold maxLen; omega
  · rw [if_neg h, if_neg h]
    exact ⟨Nat.zero_le _, Nat.zero_le _⟩
set_option maxRecDepth 100000
set_option maxHeartbeats 16000000 in
theorem walk (m : Mo) (v : Value) (gi : Int) (w : World) (hM : MoR w w.heap.size v m) (hgi : -9223372036854775808 ≤ gi ∧ gi < 9223372036854775808) (hT : Tab w) :
    Calls Tryd.prog 6 #[v, .int .i64 gi] w fun e w' => e = .returned (.bool true) ∧ Below w.heap.size w w' := by
  obtain ⟨A1, c1, A2, c2, rfl, hv, hr⟩ := hM.ex
  have HB := Lib.hid (MBox.made w m.n (.slice A1 m.val.length c1) (.slice A2 m.rel.length c2))
  have HBe : Hid (Below w.heap.size w (w.alloc (.cells #[.int .i64 m.n, .slice A1 m.val.length c1, .slice A2 m.rel.length c2] 25))) := Lib.hid ((Below.refl _ w).alloc (Nat.le_refl _) _)
  have HMW := Lib.hid (fun W (hb : Below w.heap.size w W) => hM.below hb hb.size)
  have HTW := Lib.hid (fun W (hb : Below w.heap.size w W) => hT.below hb)
  have HAW : Hid (∀ W, Below w.heap.size w W → Calls Tryd.prog 11 #[] W fun e w' => e = .returned (.bool true) ∧ Below W.heap.size W w') := Lib.hid (fun W hb => awake13_any W (hT.below hb))
  have HFW : Hid (∀ W, Below w.heap.size w W → Calls Tryd.prog 12 #[.agg #[.int .i64 m.n, .slice A1 m.val.length c1, .slice A2 m.rel.length c2]] W fun e w' => e = .returned (.bool (fewM m)) ∧ Below W.heap.size W w') := Lib.hid (fun W hb => lFew_any m _ W (HMW.out W hb))
  clear hM hv hr
  by_cases hf : fewM m = true
  case neg =>
    have hf2 : fewM m = false := by simpa using hf
    rw [hf2] at HFW
    clear hf hf2
    go_enter Tryd.func6, Tryd.ntmps6
    go_wp2_with fail
    refine (HAW.out _ HBe.out).mono ?_
    rintro e w2 ⟨rfl, hb2⟩
    have HB2 := Lib.hid (HBe.out.trans (hb2.mono HBe.out.size))
    have HX := Lib.hid (HB.out.below hb2 HB.out.lt)
    clear hb2
    have b0 := HX.out.c0
    have b1 := HX.out.c1
    have b2 := HX.out.c2
    go_wp2_with fail
    refine (HFW.out _ HB2.out).mono ?_
    rintro e w3 ⟨rfl, hb3⟩
    have HB3 := Lib.hid (HB2.out.trans (hb3.mono HB2.out.size))
    have HX3 := Lib.hid (HX.out.below hb3 HX.out.lt)
    clear hb3 b0 b1 b2
    go_wp2_with fail
    refine (HAW.out _ HB3.out).mono ?_
    rintro e w4 ⟨rfl, hb4⟩
    have HB4 := Lib.hid (HB3.out.trans (hb4.mono HB3.out.size))
    clear hb4
    go_wp2
    go_ret
    exact ⟨rfl, HB4.out⟩
  case pos =>
    rw [hf] at HFW
    clear hf
    go_enter Tryd.func6, Tryd.ntmps6
    go_wp2_with fail
    refine (HAW.out _ HBe.out).mono ?_
    rintro e w2 ⟨rfl, hb2⟩
    have HB2 := Lib.hid (HBe.out.trans (hb2.mono HBe.out.size))
    have HX := Lib.hid (HB.out.below hb2 HB.out.lt)
    clear hb2
    have b0 := HX.out.c0
    have b1 := HX.out.c1
    have b2 := HX.out.c2
    go_wp2_with fail
    refine (HFW.out _ HB2.out).mono ?_
    rintro e w3 ⟨rfl, hb3⟩
    have HB3 := Lib.hid (HB2.out.trans (hb3.mono HB2.out.size))
    have HX3 := Lib.hid (HX.out.below hb3 HX.out.lt)
    clear hb3 b0 b1 b2
    obtain ⟨hlG, hlM⟩ := group_len m gi
    generalize hGL : groupL m gi = GL at *
    generalize hML : meetL m gi = ML at *
    have K1 : Hid (∀ W, Hid (Below w3.heap.size w3 W) → Calls Tryd.prog 28 #[.agg #[.int .i64 m.n, .slice A1 m.val.length c1, .slice A2 m.rel.length c2], .int .i64 gi] W fun e w' => ∃ A c, e = .returned (.slice A GL.length c) ∧ Hid (∀ W2, Hid (Below w'.heap.size w' W2) → Reads W2 W2.heap.size 1 A GL.length (us GL)) ∧ Hid (Below w3.heap.size w3 w') ∧ Hid (Below W.heap.size W w')) := Lib.hid (fun W h => by
      have hq := pGroup_any m _ gi W (HMW.out W (HB3.out.trans (h.out.mono HB3.out.size))) hgi
      rw [hGL] at hq
      exact hq.mono (by rintro e w' ⟨A, c, rfl, hr, hb⟩; exact ⟨A, c, rfl, Lib.hid (fun W2 h2 => (hr.below h2.out).more h2.out.size), Lib.hid (h.out.trans (hb.mono h.out.size)), Lib.hid hb⟩))
    have K2 : Hid (∀ W, Hid (Below w3.heap.size w3 W) → Calls Tryd.prog 29 #[.agg #[.int .i64 m.n, .slice A1 m.val.length c1, .slice A2 m.rel.length c2], .int .i64 gi] W fun e w' => ∃ A c, e = .returned (.slice A GL.length c) ∧ Hid (∀ W2, Hid (Below w'.heap.size w' W2) → Reads W2 W2.heap.size 1 A GL.length (us GL)) ∧ Hid (Below w3.heap.size w3 w') ∧ Hid (Below W.heap.size W w')) := Lib.hid (fun W h => by
      have hq := rGroup_any m _ gi W (HMW.out W (HB3.out.trans (h.out.mono HB3.out.size))) hgi
      rw [hGL] at hq
      exact hq.mono (by rintro e w' ⟨A, c, rfl, hr, hb⟩; exact ⟨A, c, rfl, Lib.hid (fun W2 h2 => (hr.below h2.out).more h2.out.size), Lib.hid (h.out.trans (hb.mono h.out.size)), Lib.hid hb⟩))
    have K3 : Hid (∀ W, Hid (Below w3.heap.size w3 W) → Calls Tryd.prog 30 #[.agg #[.int .i64 m.n, .slice A1 m.val.length c1, .slice A2 m.rel.length c2], .int .i64 gi] W fun e w' => ∃ A c, e = .returned (.slice A ML.length c) ∧ Hid (∀ W2, Hid (Below w'.heap.size w' W2) → Reads W2 W2.heap.size 1 A ML.length (us ML)) ∧ Hid (Below w3.heap.size w3 w') ∧ Hid (Below W.heap.size W w')) := Lib.hid (fun W h => by
      have hq := pMeet_any m _ gi W (HMW.out W (HB3.out.trans (h.out.mono HB3.out.size))) hgi
      rw [hML] at hq
      exact hq.mono (by rintro e w' ⟨A, c, rfl, hr, hb⟩; exact ⟨A, c, rfl, Lib.hid (fun W2 h2 => (hr.below h2.out).more h2.out.size), Lib.hid (h.out.trans (hb.mono h.out.size)), Lib.hid hb⟩))
    have K4 : Hid (∀ W, Hid (Below w3.heap.size w3 W) → Calls Tryd.prog 31 #[.agg #[.int .i64 m.n, .slice A1 m.val.length c1, .slice A2 m.rel.length c2], .int .i64 gi] W fun e w' => ∃ A c, e = .returned (.slice A ML.length c) ∧ Hid (∀ W2, Hid (Below w'.heap.size w' W2) → Reads W2 W2.heap.size 1 A ML.length (us ML)) ∧ Hid (Below w3.heap.size w3 w') ∧ Hid (Below W.heap.size W w')) := Lib.hid (fun W h => by
      have hq := rMeet_any m _ gi W (HMW.out W (HB3.out.trans (h.out.mono HB3.out.size))) hgi
      rw [hML] at hq
      exact hq.mono (by rintro e w' ⟨A, c, rfl, hr, hb⟩; exact ⟨A, c, rfl, Lib.hid (fun W2 h2 => (hr.below h2.out).more h2.out.size), Lib.hid (h.out.trans (hb.mono h.out.size)), Lib.hid hb⟩))
    have KS : Hid (∀ (W : World) (l : List Nat) (A A' : Option Addr) (c c' : Nat), l.length ≤ maxLen → Reads W W.heap.size 1 A l.length (us l) → Reads W W.heap.size 1 A' l.length (us l) → Hid (Below w3.heap.size w3 W) → Calls Tryd.prog 27 #[.slice A l.length c, .slice A' l.length c'] W fun e w' => e = .returned (.bool true) ∧ Hid (Below w3.heap.size w3 w')) := Lib.hid (fun W l A A' c c' hl h1 h2 h => by
      have hq := rSameSets_any l l A A' l.length l.length c c' _ W h1 h2 hl hl
      rw [decide_eq_true rfl] at hq
      exact hq.mono (by rintro e w' ⟨rfl, q, rfl⟩; exact ⟨rfl, Lib.hid (below_drewN h.out q)⟩))
    have HSS : Hid (∀ W, Hid (Below w3.heap.size w3 W) → W.cell? ⟨w.heap.size, 0, none⟩ = some (.int .i64 m.n) ∧ W.cell? ⟨w.heap.size, 1, none⟩ = some (.slice A1 m.val.length c1) ∧ W.cell? ⟨w.heap.size, 2, none⟩ = some (.slice A2 m.rel.length c2) ∧ Hid (Below w3.heap.size w3 W)) := Lib.hid (fun W h => by
      have x1 := HX3.out.below h.out HX3.out.lt
      exact ⟨x1.c0, x1.c1, x1.c2, h⟩)
    have hbq : Hid (Below w3.heap.size w3 w3.drew) := Lib.hid (Below.refl _ w3).drew
    have HRF : Hid (∀ W : World, Hid (Below W.heap.size W W)) := Lib.hid (fun W => Lib.hid (Below.refl _ W))
    have HS0 := HSS.out w3.drew hbq
    obtain ⟨d0, d1, d2, _⟩ := HS0
    have HLG := Lib.hid hlG
    have HLM := Lib.hid hlM
    have e0 := HX3.out.c0
    have e1 := HX3.out.c1
    have e2 := HX3.out.c2
    clear hGL hML hlG hlM
    go_wp2
    clear e0 e1 e2
    have tokA : True := trivial
    go_region_held3 (fun W => W.cell? ⟨w.heap.size, 0, none⟩ = some (.int .i64 m.n) ∧ W.cell? ⟨w.heap.size, 1, none⟩ = some (.slice A1 m.val.length c1) ∧ W.cell? ⟨w.heap.size, 2, none⟩ = some (.slice A2 m.rel.length c2) ∧ Hid (Below w3.heap.size w3 W)) (first | with_reducible exact HSS.out _ hbq) (first
      | (go_at_call 28; refine (K1.out _ hbq).mono ?_; rintro e W' ⟨Ag, cg, rfl, HR1, hbq, hb1⟩)
      | (go_at_call 29; refine (K2.out _ hbq).mono ?_; rintro e W' ⟨Ah, ch, rfl, HR2, hbq, hb2⟩)
      | (go_at_call 30; refine (K3.out _ hbq).mono ?_; rintro e W' ⟨Am, cm, rfl, HR3, hbq, hb3⟩)
      | (go_at_call 31; refine (K4.out _ hbq).mono ?_; rintro e W' ⟨An, cn, rfl, HR4, hbq, hb4⟩)
      | (have _t := tokA; go_at_call 27; (first | refine (KS.out _ _ _ _ _ _ HLG.out (HR1.out _ hb2) (HR2.out _ (HRF.out _)) hbq).mono ?_ | refine (KS.out _ _ _ _ _ _ HLG.out (HR1.out _ (HRF.out _)) (HR2.out _ hb1) hbq).mono ?_); rintro e W' ⟨rfl, hbq⟩; clear tokA _t)
      | (go_at_call 27; (first | refine (KS.out _ _ _ _ _ _ HLM.out (HR3.out _ hb4) (HR4.out _ (HRF.out _)) hbq).mono ?_ | refine (KS.out _ _ _ _ _ _ HLM.out (HR3.out _ (HRF.out _)) (HR4.out _ hb3) hbq).mono ?_); rintro e W' ⟨rfl, hbq⟩))
    all_goals go_wp2
    all_goals go_ret
    all_goals exact ⟨rfl, HB3.out.trans (hbq.out.mono HB3.out.size)⟩
set_option maxRecDepth 100000 in
theorem contract (H : Type) (enc : TypeId × Value → H) (W : World) (base : Nat) (args : Array Value) (ds gs : List (DataW H)) (before : List MemPlace)
    (hval : ∀ (j : Nat) t v, Tryd.f6.params[j]? = some t → args[j]? = some v → Value.okWide Tryd.prog W .any base t v)
    (hW : DataW.Whole enc Tryd.prog Tryd.f6.params.toList Rows.modelGroupsSpec.vars false W args.toList ds gs before) (hE : Tab W) :
    Calls Tryd.prog 6 args W fun e W' => ∃ v, e = .returned v ∧ Rows.modelGroupsSpec.post enc Tryd.prog Tryd.f6 false true false false W args v W' := by
  have hW' := hW
  obtain ⟨p, q, hA0, hV, rfl, hfz, hnd⟩ := hW
  have hA : DataW.TrodAll enc Tryd.prog W 0 (fun _ => true) true Tryd.f6.params.toList args.toList ds p := hA0
  rw [Tryd.params6] at hA hval
  obtain ⟨v0, vs0, d0, ds0, p0, q0, hargs, rfl, rfl, h0, r0⟩ := trodAll_cons hA
  obtain ⟨v1, vs1, d1, ds1, p1, q1, rfl, rfl, rfl, h1, r1⟩ := trodAll_cons r0
  obtain ⟨rfl, rfl, rfl⟩ := trodAll_nil r1
  obtain rfl : args = #[v0, v1] := by cases args; simp_all
  obtain ⟨rfl, rfl⟩ := trodVars_none hV
  obtain ⟨m0, w0⟩ := open_mo (hval 0 25 v0 rfl rfl) h0
  have k0 := h0
  have lt0 : ∀ x ∈ p0, x.block < W.heap.size := by obtain ⟨m, hm⟩ := k0; exact DataW.trod_lt m _ _ _ hm
  obtain ⟨g1, rfl, rfl, rfl, w1⟩ := open_int Tryd.underlying3 (hval 1 3 v1 rfl rfl) h1
  clear hA0
  simp only [List.append_nil] at hW'
  have hwalk := walk m0 _ g1 W w0 (by have q1 : IntKind.i64.min = -9223372036854775808 := rfl; have q2 : IntKind.i64.max = 9223372036854775807 := rfl; have hz := w1; simp [Lit.wf] at hz; omega) hE
  refine hwalk.mono fun e W' ⟨he, hg⟩ => ?_
  subst he
  exact ⟨_, rfl, _, _, _, [], _, [], hW', trodAll_mk1 (shut_bool Tryd.underlying4 _), (trodAll_cons_mk (Below.trod laidOut (by kernel_rfl) (of_decide_eq_true (by kernel_rfl)) k0 hg lt0) (trodAll_cons_mk (shut_int Tryd.underlying3 w1) trodAll_mk0)), rfl, hg.frame _, fun h => by cases h⟩
theorem reads (os : Os) {H : Type} (enc : TypeId × Value → H) : ∃ places, DataW.whole enc Tryd.prog ((laidW os).forCall (fun _ _ => 0) ⟨#[], #[.agg #[.int .i64 0, .slice none 0 0, .slice none 0 0], .int .i64 0], []⟩).memory Tryd.f6.params.toList Rows.modelGroupsSpec.vars false #[(.agg #[.int .i64 0, .slice none 0 0, .slice none 0 0] : Value), (.int .i64 0 : Value)].toList 8 = some ([.agg [.lit (.int .i64 0), .nil, .nil], .lit (.int .i64 0)], [], places) :=
  ⟨[], by kernel_rfl⟩
set_option maxRecDepth 100000 in
theorem lifted (os : Os) (started : os.Started) (H : Type) (enc : TypeId × Value → H) (F : Stop.Interp) :
    ReturnsInHanded {} Tryd.checked os 6 .any ((OpenSpec.ofChange Rows.modelGroupsSpec).preRow enc Tryd.prog Tryd.f6 Rows.modelGroupsRow.domain false Rows.modelGroupsRow.laid) (((OpenSpec.ofChange Rows.modelGroupsSpec).at F).post enc Tryd.prog Tryd.f6 false true false false) := by
  obtain ⟨places, hx⟩ := reads os enc
  refine returnsInHanded_of_row (C := Tryd.checked) (s := OpenSpec.ofChange Rows.modelGroupsSpec) own started (by kernel_rfl) Tryd.func6
    (witness_row_atRef (enc := enc) (C := Tryd.checked) false (laidW os) #[.agg #[.int .i64 0, .slice none 0 0, .slice none 0 0], .int .i64 0] (laidW_os os) (vars_ok os _) (heap_ok os _) (by kernel_rfl)
      (OpenSpec.preRow_of_cond 8 hx (by kernel_rfl) (fun k hk => by cases hk) (by kernel_rfl) (laid_met os _))) ?_
  intro W base args ds gs before hval hW _ _ _ hL hsh _
  exact contract H enc W base args ds gs before hval hW (env_of hL)
theorem said : Rows.ModelGroupsSaid :=
  OpenClaim.holds_of_cond 6 Tryd.f6 rfl rfl rfl rfl rfl rfl rfl ⟨rfl, rfl, rfl, rfl, rfl⟩ rfl rfl rfl rfl rfl (by kernel_rfl) Tryd.func6 (by kernel_rfl)
    (of_decide_eq_true (by kernel_rfl)) (by unfold Func.isWrapper; first | (rw [if_pos (by decide +kernel)]; kernel_rfl) | (rw [if_neg (by decide +kernel)]; exact ⟨rfl, rfl⟩))
    (fun os started H enc _ F => by rw [OpenClaim.pre_eq_preRow]; exact lifted os started H enc F)
theorem plain (f : FuncId) (fn : Func) (hf : Tryd.pinned.checked.prog.funcNamed "witting/wittinglaw13.ModelGroups" = some f) (hfn : Tryd.pinned.checked.prog.funcs[f]? = some fn) :
    false = Tryd.pinned.checked.prog.looks [] ∧ ∀ (j : Nat) t, fn.params[j]? = some t → Tryd.pinned.checked.prog.wantsStandIn t = false := by
  obtain rfl : f = 6 := Option.some.inj ((show Tryd.prog.funcNamed "witting/wittinglaw13.ModelGroups" = some 6 by kernel_rfl).symm.trans hf) |>.symm
  obtain rfl : fn = Tryd.f6 := (Option.some.inj (Tryd.func6.symm.trans hfn)).symm
  refine ⟨no_looks, fun j t ht => ?_⟩
  rw [Tryd.params6] at ht
  have hm : t ∈ [25, 3] := by simpa using Array.mem_of_getElem? ht
  have hall : ([25, 3].all fun u => !Tryd.prog.wantsStandIn u) = true := by kernel_rfl
  exact (show Tryd.prog.wantsStandIn t = false by simpa using List.all_eq_true.1 hall t hm)
theorem card : Rows.ModelGroupsCardSaid :=
  Claim7.holds_tied_plain_at .later [] _ _ _ _ said (fun _ h => by cases h) (by kernel_rfl) (fun _ h => by cases h) modelGroups_row_tie rfl ⟨rfl, rfl⟩ (by kernel_rfl) rfl plain (by kernel_rfl)
#print axioms card
end Go.Proofs.YtofclgapgjcflaaDoor.modelGroups
