/- Layer 8: RewriteLists: Modal and Closure return the specified formulas, or the specified errors, for all lists of nodes. -/
import Derived.Test.YtkkkomkljpolbaaDoorGza
import Derived.Test.YtkkkomkljpolbaaDoorJl
import Derived.Test.YtkkkomkljpolbaaDoorRl
namespace Go.Proofs.YtkkkomkljpolbaaDoor.rewriteLists
open Go.ChangeShapes Go.WideShapes Go.ChangeAt Go.RowKit Go.Proofs.YtkkkomkljpolbaaDoor Go.Proofs.YtkkkomkljpolbaaDoor.rwl Go.Proofs.Ws Go.Maps
open Go.ChangeMaps (open_string shut_string)
theorem few_any (A : Option Addr) (n c : Nat) (k : Int) (w : World) : Calls Tryd.prog 14 #[.slice A n c, .int .i64 k] w fun e w' => e = .returned (.bool (decide ((n : Int) ≤ k))) ∧ w = w' := by
  go_enter Tryd.func14, Tryd.ntmps14
  go_wp2
  go_ret
  exact ⟨rfl, rfl⟩
theorem modal_small (f : List Nd) : (if fErr f = 0 then modL (subsF f) else []).length ≤ 1000 ∧ ∀ k, k < (if fErr f = 0 then modL (subsF f) else []).length → ((if fErr f = 0 then modL (subsF f) else []).getD k []).length ≤ maxLen := by
  by_cases hz : fErr f = 0
  · rw [if_pos hz]
    obtain ⟨s1, s2⟩ := subs_len8 hz
    have h200 := (fErr_ok hz).2.1
    have h1 := modL_len (subsF f)
    refine ⟨by omega, fun k hk => ?_⟩
    rw [List.getD_eq_getElem?_getD, List.getElem?_eq_getElem hk]
    have hmem : (modL (subsF f))[k] ∈ subsF f := (List.mem_filter.1 (List.getElem_mem hk)).1
    have := (s2 _ hmem).2
    show (modL (subsF f))[k].length ≤ maxLen
    unfold maxLen
    omega
  · rw [if_neg hz]
    exact ⟨by simp, fun k hk => absurd hk (by simp)⟩
theorem clos_small (f : List Nd) (hfew : fErr f = 0 → f.length ≤ 199) : (if fErr f = 0 then closN [] (subsF f) else []).length ≤ 1000 ∧ ∀ k, k < (if fErr f = 0 then closN [] (subsF f) else []).length → ((if fErr f = 0 then closN [] (subsF f) else []).getD k []).length ≤ maxLen := by
  by_cases hz : fErr f = 0
  · rw [if_pos hz]
    have h199 := hfew hz
    obtain ⟨s1, s2⟩ := subs_len8 hz
    have h1 := closN_len (subsF f) []
    have h2 := closN_small (subsF f) [] (fun g hg => absurd hg (by simp)) (fun g hg => by have := (s2 g hg).2; omega)
    refine ⟨by simp at h1; omega, fun k hk => ?_⟩
    rw [List.getD_eq_getElem?_getD, List.getElem?_eq_getElem hk]
    have := h2 _ (List.getElem_mem hk)
    show (closN [] (subsF f))[k].length ≤ maxLen
    unfold maxLen
    omega
  · rw [if_neg hz]
    exact ⟨by simp, fun k hk => absurd hk (by simp)⟩
set_option maxRecDepth 100000 in
set_option maxHeartbeats 16000000 in
theorem walk (f : List Nd) (A0 : Option Addr) (n0 c0 : Nat) (w : World) (hE : EnvR w w.heap.size) (h0 : NdRow w A0 n0 c0 f) :
    Calls Tryd.prog 4 #[.slice A0 n0 c0] w fun e w' => e = .returned (.bool true) ∧ Below w.heap.size w w' := by
  obtain ⟨hR, _, _, hm⟩ := h0
  have hl := hR.nd_len
  have HE := Lib.hid hE
  have HFE := Lib.hid (few_any A0 n0 c0 40 w)
  by_cases hbad : 40 < n0 ∧ n0 ≤ 200
  · rw [decide_eq_false (show ¬ ((n0 : Nat) : Int) ≤ 40 by omega)] at HFE
    have hd : decide ((n0 : Int) ≤ 200) = true := decide_eq_true (by omega)
    clear hR hl hbad
    go_enter Tryd.func4, Tryd.ntmps4
    go_wp2_with fail
    refine (HFE.out).mono ?_
    rintro r w0 ⟨rfl, rfl⟩
    go_wp2_with fail
    refine (awake8_any w ((HE.out.below (Below.refl w.heap.size w)).up (Below.refl w.heap.size w).size)).mono ?_
    rintro r wz ⟨rfl, hbz⟩
    have HBY := Lib.hid ((Below.refl w.heap.size w).trans (hbz.mono (Below.refl w.heap.size w).size))
    clear hbz
    go_wp2
    go_ret
    exact ⟨rfl, HBY.out⟩
  · have hfew : fErr f = 0 → f.length ≤ 199 := fun hz => by have := (fErr_ok hz).2.1; omega
    have HP := Lib.hid (fun (W : World) (h : Below w.heap.size w W) => pModal_any f A0 n0 c0 W (up8 hR h) hm)
    have HQ := Lib.hid (fun (W : World) (h : Below w.heap.size w W) => rModal_any f A0 n0 c0 W (up8 hR h) hm)
    have HC := Lib.hid (fun (W : World) (h : Below w.heap.size w W) => pClosure_any f A0 n0 c0 W ((hE.below h).up h.size) (up8 hR h) hm hfew)
    have HD := Lib.hid (fun (W : World) (h : Below w.heap.size w W) => rClosure_any f A0 n0 c0 W (up8 hR h) hm hfew)
    have HML := Lib.hid (modal_small f)
    have HCL := Lib.hid (clos_small f hfew)
    clear hE hR hl hm hfew
    generalize (if fErr f = 0 then modL (subsF f) else []) = ml at *
    generalize (if fErr f = 0 then closN [] (subsF f) else []) = cl at *
    generalize fErr f = ef at *
    by_cases hn : n0 ≤ 40
    · rw [decide_eq_true (show ((n0 : Nat) : Int) ≤ 40 by omega)] at HFE
      go_enter Tryd.func4, Tryd.ntmps4
      go_wp2_with fail
      refine (HFE.out).mono ?_
      rintro r w0 ⟨rfl, rfl⟩
      go_wp2_with fail
      refine (HP.out w (Below.refl _ _)).mono ?_
      rintro r w1 ⟨va, rfl, ha, hb⟩
      have HA1 := Lib.hid ha
      have HB1 := Lib.hid hb
      clear ha hb
      go_wp2_with fail
      refine (HQ.out w1 HB1.out).mono ?_
      rintro r w2 ⟨vb, rfl, hbl, hb⟩
      have HA2 := Lib.hid (HA1.out.below hb)
      have HBB2 := Lib.hid hbl
      have HB2 := Lib.hid (HB1.out.trans (hb.mono HB1.out.size))
      clear hbl hb
      go_wp2_with fail
      refine (HC.out w2 HB2.out).mono ?_
      rintro r w3 ⟨vc, rfl, hcl, hb⟩
      have HA3 := Lib.hid (HA2.out.below hb)
      have HBB3 := Lib.hid (HBB2.out.below hb)
      have HC3 := Lib.hid hcl
      have HB3 := Lib.hid (HB2.out.trans (hb.mono HB2.out.size))
      clear hcl hb
      go_wp2_with fail
      refine (HD.out w3 HB3.out).mono ?_
      rintro r w4 ⟨vd, rfl, hdl, hb⟩
      have HA4 := Lib.hid (HA3.out.below hb)
      have HBB4 := Lib.hid (HBB3.out.below hb)
      have HC4 := Lib.hid (HC3.out.below hb)
      have HD4 := Lib.hid hdl
      have HB4 := Lib.hid (HB3.out.trans (hb.mono HB3.out.size))
      clear hdl hb HP HQ HC HD
      have hee : (ef == ef) = true := by simp
      go_wp2_with fail
      refine (sameLists_any ml va vb _ _ w4 HA4.out HBB4.out HML.out.1 HML.out.2).mono ?_
      rintro r w5 ⟨rfl, hb⟩
      have HC5 := Lib.hid (HC4.out.below hb)
      have HD5 := Lib.hid (HD4.out.below hb)
      have HB5 := Lib.hid (HB4.out.trans (hb.mono HB4.out.size))
      clear hb
      go_wp2_with fail
      refine (sameLists_any cl vc vd _ _ w5 HC5.out HD5.out HCL.out.1 HCL.out.2).mono ?_
      rintro r w6 ⟨rfl, hb⟩
      have HB6 := Lib.hid (HB5.out.trans (hb.mono HB5.out.size))
      clear hb
      go_wp2_with fail
      refine (awake8_any w6 ((HE.out.below HB6.out).up HB6.out.size)).mono ?_
      rintro r wz ⟨rfl, hbz⟩
      have HBY := Lib.hid (HB6.out.trans (hbz.mono HB6.out.size))
      clear hbz
      go_wp2
      go_ret
      exact ⟨rfl, HBY.out⟩
    · rw [decide_eq_false (show ¬ ((n0 : Nat) : Int) ≤ 40 by omega)] at HFE
      have hd : decide ((n0 : Int) ≤ 200) = false := decide_eq_false (by omega)
      go_enter Tryd.func4, Tryd.ntmps4
      go_wp2_with fail
      refine (HFE.out).mono ?_
      rintro r w0 ⟨rfl, rfl⟩
      go_wp2_with fail
      refine (HP.out w (Below.refl _ _)).mono ?_
      rintro r w1 ⟨va, rfl, ha, hb⟩
      have HA1 := Lib.hid ha
      have HB1 := Lib.hid hb
      clear ha hb
      go_wp2_with fail
      refine (HQ.out w1 HB1.out).mono ?_
      rintro r w2 ⟨vb, rfl, hbl, hb⟩
      have HA2 := Lib.hid (HA1.out.below hb)
      have HBB2 := Lib.hid hbl
      have HB2 := Lib.hid (HB1.out.trans (hb.mono HB1.out.size))
      clear hbl hb
      go_wp2_with fail
      refine (HC.out w2 HB2.out).mono ?_
      rintro r w3 ⟨vc, rfl, hcl, hb⟩
      have HA3 := Lib.hid (HA2.out.below hb)
      have HBB3 := Lib.hid (HBB2.out.below hb)
      have HC3 := Lib.hid hcl
      have HB3 := Lib.hid (HB2.out.trans (hb.mono HB2.out.size))
      clear hcl hb
      go_wp2_with fail
      refine (HD.out w3 HB3.out).mono ?_
      rintro r w4 ⟨vd, rfl, hdl, hb⟩
      have HA4 := Lib.hid (HA3.out.below hb)
      have HBB4 := Lib.hid (HBB3.out.below hb)
      have HC4 := Lib.hid (HC3.out.below hb)
      have HD4 := Lib.hid hdl
      have HB4 := Lib.hid (HB3.out.trans (hb.mono HB3.out.size))
      clear hdl hb HP HQ HC HD
      have hee : (ef == ef) = true := by simp
      go_wp2_with fail
      refine (sameLists_any ml va vb _ _ w4 HA4.out HBB4.out HML.out.1 HML.out.2).mono ?_
      rintro r w5 ⟨rfl, hb⟩
      have HC5 := Lib.hid (HC4.out.below hb)
      have HD5 := Lib.hid (HD4.out.below hb)
      have HB5 := Lib.hid (HB4.out.trans (hb.mono HB4.out.size))
      clear hb
      go_wp2_with fail
      refine (sameLists_any cl vc vd _ _ w5 HC5.out HD5.out HCL.out.1 HCL.out.2).mono ?_
      rintro r w6 ⟨rfl, hb⟩
      have HB6 := Lib.hid (HB5.out.trans (hb.mono HB5.out.size))
      clear hb
      go_wp2_with fail
      refine (awake8_any w6 ((HE.out.below HB6.out).up HB6.out.size)).mono ?_
      rintro r wz ⟨rfl, hbz⟩
      have HBY := Lib.hid (HB6.out.trans (hbz.mono HB6.out.size))
      clear hbz
      go_wp2
      go_ret
      exact ⟨rfl, HBY.out⟩
set_option maxRecDepth 100000 in
theorem contract (H : Type) (enc : TypeId × Value → H) (W : World) (base : Nat) (args : Array Value) (ds gs : List (DataW H)) (before : List MemPlace)
    (hval : ∀ (j : Nat) t v, Tryd.f4.params[j]? = some t → args[j]? = some v → Value.okWide Tryd.prog W .any base t v)
    (hW : DataW.Whole enc Tryd.prog Tryd.f4.params.toList Rows.rewriteListsSpec.vars false W args.toList ds gs before) (hE : EnvR W W.heap.size) :
    Calls Tryd.prog 4 args W fun e W' => ∃ v, e = .returned v ∧ Rows.rewriteListsSpec.post enc Tryd.prog Tryd.f4 false true false false W args v W' := by
  have hW' := hW
  obtain ⟨p, q, hA0, hV, rfl, hfz, hnd⟩ := hW
  have hA : DataW.TrodAll enc Tryd.prog W 0 (fun _ => true) true Tryd.f4.params.toList args.toList ds p := hA0
  rw [Tryd.params4] at hA hval
  obtain ⟨v0, vs0, d0, ds0, p0, q0, hargs, rfl, rfl, h0, r0⟩ := trodAll_cons hA
  obtain ⟨rfl, rfl, rfl⟩ := trodAll_nil r0
  obtain rfl : args = #[v0] := by cases args; simp_all
  obtain ⟨rfl, rfl⟩ := trodVars_none hV
  obtain ⟨af0, nf0, cf0, rfl⟩ := okWide_slice Tryd.underlying22 (hval 0 22 v0 rfl rfl)
  obtain ⟨f0, w0⟩ : ∃ l, NdRow W af0 nf0 cf0 l := by
    obtain ⟨fuel, hf⟩ := h0
    exact open_nodes hf
  have k0 := h0
  have lt0 : ∀ x ∈ p0, x.block < W.heap.size := by obtain ⟨m, hm⟩ := k0; exact DataW.trod_lt m _ _ _ hm
  clear hA0
  have hwalk := walk f0 af0 nf0 cf0 W hE w0
  refine hwalk.mono fun e W' ⟨he, hg⟩ => ?_
  subst he
  exact ⟨_, rfl, _, _, _, [], _, [], hW', trodAll_mk1 (shut_bool Tryd.underlying4 _), (trodAll_cons_mk (Below.trod laidOut (by kernel_rfl) (of_decide_eq_true (by kernel_rfl)) k0 hg lt0) trodAll_mk0), rfl, hg.frame _, fun h => by cases h⟩
theorem reads (os : Os) {H : Type} (enc : TypeId × Value → H) : ∃ places, DataW.whole enc Tryd.prog ((laidW os).forCall (fun _ _ => 0) ⟨#[], #[.slice none 0 0], []⟩).memory Tryd.f4.params.toList Rows.rewriteListsSpec.vars false #[(.slice none 0 0 : Value)].toList 8 = some ([.nil], [], places) :=
  ⟨[], by kernel_rfl⟩
set_option maxRecDepth 100000 in
theorem lifted (os : Os) (started : os.Started) (H : Type) (enc : TypeId × Value → H) (F : Stop.Interp) :
    ReturnsInHanded {} Tryd.checked os 4 .any ((OpenSpec.ofChange Rows.rewriteListsSpec).preRow enc Tryd.prog Tryd.f4 Rows.rewriteListsRow.domain false Rows.rewriteListsRow.laid) (((OpenSpec.ofChange Rows.rewriteListsSpec).at F).post enc Tryd.prog Tryd.f4 false true false false) := by
  obtain ⟨places, hx⟩ := reads os enc
  refine returnsInHanded_of_row (C := Tryd.checked) (s := OpenSpec.ofChange Rows.rewriteListsSpec) own started (by kernel_rfl) Tryd.func4
    (witness_row_atRef (enc := enc) (C := Tryd.checked) false (laidW os) #[.slice none 0 0] (laidW_os os) (vars_ok os _) (heap_ok os _) (by kernel_rfl)
      (OpenSpec.preRow_of_cond 8 hx (by kernel_rfl) (fun k hk => by cases hk) (by kernel_rfl) (laid_met os _))) ?_
  intro W base args ds gs before hval hW _ _ _ hL hsh _
  exact contract H enc W base args ds gs before hval hW (env_of hL)
theorem said : Rows.RewriteListsSaid :=
  OpenClaim.holds_of_cond 4 Tryd.f4 rfl rfl rfl rfl rfl rfl rfl ⟨rfl, rfl, rfl, rfl, rfl⟩ rfl rfl rfl rfl rfl (by kernel_rfl) Tryd.func4 (by kernel_rfl)
    (of_decide_eq_true (by kernel_rfl)) (by unfold Func.isWrapper; first | (rw [if_pos (by decide +kernel)]; kernel_rfl) | (rw [if_neg (by decide +kernel)]; exact ⟨rfl, rfl⟩))
    (fun os started H enc _ F => by rw [OpenClaim.pre_eq_preRow]; exact lifted os started H enc F)
theorem plain (f : FuncId) (fn : Func) (hf : Tryd.pinned.checked.prog.funcNamed "witting/wittinglaw08.RewriteLists" = some f) (hfn : Tryd.pinned.checked.prog.funcs[f]? = some fn) :
    false = Tryd.pinned.checked.prog.looks [] ∧ ∀ (j : Nat) t, fn.params[j]? = some t → Tryd.pinned.checked.prog.wantsStandIn t = false := by
  obtain rfl : f = 4 := Option.some.inj ((show Tryd.prog.funcNamed "witting/wittinglaw08.RewriteLists" = some 4 by kernel_rfl).symm.trans hf) |>.symm
  obtain rfl : fn = Tryd.f4 := (Option.some.inj (Tryd.func4.symm.trans hfn)).symm
  refine ⟨no_looks, fun j t ht => ?_⟩
  rw [Tryd.params4] at ht
  have hm : t ∈ [22] := by simpa using Array.mem_of_getElem? ht
  have hall : ([22].all fun u => !Tryd.prog.wantsStandIn u) = true := by kernel_rfl
  exact (show Tryd.prog.wantsStandIn t = false by simpa using List.all_eq_true.1 hall t hm)
theorem card : Rows.RewriteListsCardSaid :=
  Claim7.holds_tied_plain_at .later [] _ _ _ _ said (fun _ h => by cases h) (by kernel_rfl) (fun _ h => by cases h) rewriteLists_row_tie rfl ⟨rfl, rfl⟩ (by kernel_rfl) rfl plain (by kernel_rfl)
#print axioms card
end Go.Proofs.YtkkkomkljpolbaaDoor.rewriteLists
