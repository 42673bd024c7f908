/- Layer 8: RewriteSimplify: Simplify returns the specified formula, or the specified error, for all lists of nodes. -/
import Derived.Test.YtkkkomkljpolbaaDoorGze
import Derived.Test.YtkkkomkljpolbaaDoorRl
namespace Go.Proofs.YtkkkomkljpolbaaDoor.rewriteSimplify
open Go.ChangeShapes Go.WideShapes Go.ChangeAt Go.RowKit Go.Proofs.YtkkkomkljpolbaaDoor Go.Proofs.YtkkkomkljpolbaaDoor.rwl Go.Proofs.Ws Go.Maps
open Go.ChangeMaps (open_string shut_string)
theorem few_any (A : Option Addr) (n c : Nat) (k : Int) (w : World) : Calls Tryd.prog 14 #[.slice A n c, .int .i64 k] w fun e w' => e = .returned (.bool (decide ((n : Int) ≤ k))) ∧ w = w' := by
  go_enter Tryd.func14, Tryd.ntmps14
  go_wp2
  go_ret
  exact ⟨rfl, rfl⟩
set_option maxRecDepth 100000 in
set_option maxHeartbeats 16000000 in
theorem walk (f : List Nd) (A0 : Option Addr) (n0 c0 : Nat) (w : World) (hE : EnvR w w.heap.size) (h0 : NdRow w A0 n0 c0 f) :
    Calls Tryd.prog 3 #[.slice A0 n0 c0] w fun e w' => e = .returned (.bool true) ∧ Below w.heap.size w w' := by
  obtain ⟨hR, _, _, hm⟩ := h0
  have HE := Lib.hid hE
  have HFE := Lib.hid (few_any A0 n0 c0 60 w)
  by_cases hbad : 60 < n0 ∧ n0 ≤ 200
  · rw [decide_eq_false (show ¬ ((n0 : Nat) : Int) ≤ 60 by omega)] at HFE
    have hd : decide ((n0 : Int) ≤ 200) = true := decide_eq_true (by omega)
    clear hR hbad
    go_enter Tryd.func3, Tryd.ntmps3
    go_wp2_with fail
    refine (HFE.out).mono ?_
    rintro r w0 ⟨rfl, rfl⟩
    go_wp2_with fail
    refine (awake8_any w ((HE.out.below (Below.refl w.heap.size w)).up (Below.refl w.heap.size w).size)).mono ?_
    rintro r wz ⟨rfl, hbz⟩
    have HBY := Lib.hid ((Below.refl w.heap.size w).trans (hbz.mono (Below.refl w.heap.size w).size))
    clear hbz
    go_wp2
    go_ret
    exact ⟨rfl, HBY.out⟩
  · have HP := Lib.hid (fun (W : World) (h : Below w.heap.size w W) => pSimp_any f A0 n0 c0 W ((hE.below h).up h.size) (up8 hR h) hm)
    have HQ := Lib.hid (fun (W : World) (h : Below w.heap.size w W) => rSimplify_any f A0 n0 c0 W (up8 hR h) hm)
    have HRL : Hid ((mapF (mapT simT) f).length ≤ maxLen) := Lib.hid (Nat.le_trans (mapF_len _ _) (by decide))
    clear hE hR hm
    generalize mapF (mapT simT) f = rf at *
    generalize mapE (mapT simT) f = re at *
    by_cases hn : n0 ≤ 60
    · rw [decide_eq_true (show ((n0 : Nat) : Int) ≤ 60 by omega)] at HFE
      go_enter Tryd.func3, Tryd.ntmps3
      go_wp2_with fail
      refine (HFE.out).mono ?_
      rintro r w0 ⟨rfl, rfl⟩
      go_wp2_with fail
      refine (HP.out w (Below.refl _ _)).mono ?_
      rintro r w4 ⟨Ap, cp, rfl, hrp, hb4⟩
      have HRP := Lib.hid hrp
      have HB4 := Lib.hid hb4
      clear hrp hb4
      go_wp2_with fail
      refine (HQ.out w4 HB4.out).mono ?_
      rintro r w5 ⟨Ar, cr, rfl, hrr, hb5⟩
      have HRR := Lib.hid hrr
      have HRP5 := Lib.hid (up8 HRP.out hb5)
      have HB5 := Lib.hid (HB4.out.trans (hb5.mono HB4.out.size))
      clear hrr hb5 HP HQ
      have CE := Lib.hid (rEqual_any rf rf Ap Ar rf.length rf.length cp cr w5 HRP5.out HRR.out HRL.out HRL.out)
      rw [decide_eq_true rfl] at CE
      go_wp2_with fail
      refine (CE.out).mono ?_
      rintro r w6 ⟨rfl, hb6⟩
      have HB6 := Lib.hid (HB5.out.trans (hb6.mono HB5.out.size))
      clear hb6
      have hre : (re == re) = true := by simp
      go_wp2_with fail
      refine (awake8_any w6 ((HE.out.below HB6.out).up HB6.out.size)).mono ?_
      rintro r wz ⟨rfl, hbz⟩
      have HBY := Lib.hid (HB6.out.trans (hbz.mono HB6.out.size))
      clear hbz
      go_wp2
      go_ret
      exact ⟨rfl, HBY.out⟩
    · rw [decide_eq_false (show ¬ ((n0 : Nat) : Int) ≤ 60 by omega)] at HFE
      have hd : decide ((n0 : Int) ≤ 200) = false := decide_eq_false (by omega)
      go_enter Tryd.func3, Tryd.ntmps3
      go_wp2_with fail
      refine (HFE.out).mono ?_
      rintro r w0 ⟨rfl, rfl⟩
      go_wp2_with fail
      refine (HP.out w (Below.refl _ _)).mono ?_
      rintro r w4 ⟨Ap, cp, rfl, hrp, hb4⟩
      have HRP := Lib.hid hrp
      have HB4 := Lib.hid hb4
      clear hrp hb4
      go_wp2_with fail
      refine (HQ.out w4 HB4.out).mono ?_
      rintro r w5 ⟨Ar, cr, rfl, hrr, hb5⟩
      have HRR := Lib.hid hrr
      have HRP5 := Lib.hid (up8 HRP.out hb5)
      have HB5 := Lib.hid (HB4.out.trans (hb5.mono HB4.out.size))
      clear hrr hb5 HP HQ
      have CE := Lib.hid (rEqual_any rf rf Ap Ar rf.length rf.length cp cr w5 HRP5.out HRR.out HRL.out HRL.out)
      rw [decide_eq_true rfl] at CE
      go_wp2_with fail
      refine (CE.out).mono ?_
      rintro r w6 ⟨rfl, hb6⟩
      have HB6 := Lib.hid (HB5.out.trans (hb6.mono HB5.out.size))
      clear hb6
      have hre : (re == re) = true := by simp
      go_wp2_with fail
      refine (awake8_any w6 ((HE.out.below HB6.out).up HB6.out.size)).mono ?_
      rintro r wz ⟨rfl, hbz⟩
      have HBY := Lib.hid (HB6.out.trans (hbz.mono HB6.out.size))
      clear hbz
      go_wp2
      go_ret
      exact ⟨rfl, HBY.out⟩
set_option maxRecDepth 100000 in
theorem contract (H : Type) (enc : TypeId × Value → H) (W : World) (base : Nat) (args : Array Value) (ds gs : List (DataW H)) (before : List MemPlace)
    (hval : ∀ (j : Nat) t v, Tryd.f3.params[j]? = some t → args[j]? = some v → Value.okWide Tryd.prog W .any base t v)
    (hW : DataW.Whole enc Tryd.prog Tryd.f3.params.toList Rows.rewriteSimplifySpec.vars false W args.toList ds gs before) (hE : EnvR W W.heap.size) :
    Calls Tryd.prog 3 args W fun e W' => ∃ v, e = .returned v ∧ Rows.rewriteSimplifySpec.post enc Tryd.prog Tryd.f3 false true false false W args v W' := by
  have hW' := hW
  obtain ⟨p, q, hA0, hV, rfl, hfz, hnd⟩ := hW
  have hA : DataW.TrodAll enc Tryd.prog W 0 (fun _ => true) true Tryd.f3.params.toList args.toList ds p := hA0
  rw [Tryd.params3] at hA hval
  obtain ⟨v0, vs0, d0, ds0, p0, q0, hargs, rfl, rfl, h0, r0⟩ := trodAll_cons hA
  obtain ⟨rfl, rfl, rfl⟩ := trodAll_nil r0
  obtain rfl : args = #[v0] := by cases args; simp_all
  obtain ⟨rfl, rfl⟩ := trodVars_none hV
  obtain ⟨af0, nf0, cf0, rfl⟩ := okWide_slice Tryd.underlying22 (hval 0 22 v0 rfl rfl)
  obtain ⟨f0, w0⟩ : ∃ l, NdRow W af0 nf0 cf0 l := by
    obtain ⟨fuel, hf⟩ := h0
    exact open_nodes hf
  have k0 := h0
  have lt0 : ∀ x ∈ p0, x.block < W.heap.size := by obtain ⟨m, hm⟩ := k0; exact DataW.trod_lt m _ _ _ hm
  clear hA0
  have hwalk := walk f0 af0 nf0 cf0 W hE w0
  refine hwalk.mono fun e W' ⟨he, hg⟩ => ?_
  subst he
  exact ⟨_, rfl, _, _, _, [], _, [], hW', trodAll_mk1 (shut_bool Tryd.underlying4 _), (trodAll_cons_mk (Below.trod laidOut (by kernel_rfl) (of_decide_eq_true (by kernel_rfl)) k0 hg lt0) trodAll_mk0), rfl, hg.frame _, fun h => by cases h⟩
theorem reads (os : Os) {H : Type} (enc : TypeId × Value → H) : ∃ places, DataW.whole enc Tryd.prog ((laidW os).forCall (fun _ _ => 0) ⟨#[], #[.slice none 0 0], []⟩).memory Tryd.f3.params.toList Rows.rewriteSimplifySpec.vars false #[(.slice none 0 0 : Value)].toList 8 = some ([.nil], [], places) :=
  ⟨[], by kernel_rfl⟩
set_option maxRecDepth 100000 in
theorem lifted (os : Os) (started : os.Started) (H : Type) (enc : TypeId × Value → H) (F : Stop.Interp) :
    ReturnsInHanded {} Tryd.checked os 3 .any ((OpenSpec.ofChange Rows.rewriteSimplifySpec).preRow enc Tryd.prog Tryd.f3 Rows.rewriteSimplifyRow.domain false Rows.rewriteSimplifyRow.laid) (((OpenSpec.ofChange Rows.rewriteSimplifySpec).at F).post enc Tryd.prog Tryd.f3 false true false false) := by
  obtain ⟨places, hx⟩ := reads os enc
  refine returnsInHanded_of_row (C := Tryd.checked) (s := OpenSpec.ofChange Rows.rewriteSimplifySpec) own started (by kernel_rfl) Tryd.func3
    (witness_row_atRef (enc := enc) (C := Tryd.checked) false (laidW os) #[.slice none 0 0] (laidW_os os) (vars_ok os _) (heap_ok os _) (by kernel_rfl)
      (OpenSpec.preRow_of_cond 8 hx (by kernel_rfl) (fun k hk => by cases hk) (by kernel_rfl) (laid_met os _))) ?_
  intro W base args ds gs before hval hW _ _ _ hL hsh _
  exact contract H enc W base args ds gs before hval hW (env_of hL)
theorem said : Rows.RewriteSimplifySaid :=
  OpenClaim.holds_of_cond 3 Tryd.f3 rfl rfl rfl rfl rfl rfl rfl ⟨rfl, rfl, rfl, rfl, rfl⟩ rfl rfl rfl rfl rfl (by kernel_rfl) Tryd.func3 (by kernel_rfl)
    (of_decide_eq_true (by kernel_rfl)) (by unfold Func.isWrapper; first | (rw [if_pos (by decide +kernel)]; kernel_rfl) | (rw [if_neg (by decide +kernel)]; exact ⟨rfl, rfl⟩))
    (fun os started H enc _ F => by rw [OpenClaim.pre_eq_preRow]; exact lifted os started H enc F)
theorem plain (f : FuncId) (fn : Func) (hf : Tryd.pinned.checked.prog.funcNamed "witting/wittinglaw08.RewriteSimplify" = some f) (hfn : Tryd.pinned.checked.prog.funcs[f]? = some fn) :
    false = Tryd.pinned.checked.prog.looks [] ∧ ∀ (j : Nat) t, fn.params[j]? = some t → Tryd.pinned.checked.prog.wantsStandIn t = false := by
  obtain rfl : f = 3 := Option.some.inj ((show Tryd.prog.funcNamed "witting/wittinglaw08.RewriteSimplify" = some 3 by kernel_rfl).symm.trans hf) |>.symm
  obtain rfl : fn = Tryd.f3 := (Option.some.inj (Tryd.func3.symm.trans hfn)).symm
  refine ⟨no_looks, fun j t ht => ?_⟩
  rw [Tryd.params3] at ht
  have hm : t ∈ [22] := by simpa using Array.mem_of_getElem? ht
  have hall : ([22].all fun u => !Tryd.prog.wantsStandIn u) = true := by kernel_rfl
  exact (show Tryd.prog.wantsStandIn t = false by simpa using List.all_eq_true.1 hall t hm)
theorem card : Rows.RewriteSimplifyCardSaid :=
  Claim7.holds_tied_plain_at .later [] _ _ _ _ said (fun _ h => by cases h) (by kernel_rfl) (fun _ h => by cases h) rewriteSimplify_row_tie rfl ⟨rfl, rfl⟩ (by kernel_rfl) rfl plain (by kernel_rfl)
#print axioms card
end Go.Proofs.YtkkkomkljpolbaaDoor.rewriteSimplify
