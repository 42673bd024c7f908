/- Layer 8: RewriteSubst: Subst returns the specified formula, or the specified error, for all lists of nodes. -/
import Derived.Test.YtkcedppepepgfaaDoorRl
namespace Go.Proofs.YtkcedppepepgfaaDoor.rewriteSubst
open Go.ChangeShapes Go.WideShapes Go.ChangeAt Go.RowKit Go.Proofs.YtkcedppepepgfaaDoor Go.Proofs.YtkcedppepepgfaaDoor.rwl Go.Proofs.Ws Go.Maps
open Go.ChangeMaps (open_string shut_string)
theorem few_any (A : Option Addr) (n c : Nat) (k : Int) (w : World) : Calls Tryd.prog 10 #[.slice A n c, .int .i64 k] w fun e w' => e = .returned (.bool (decide ((n : Int) ≤ k))) ∧ w = w' := by
  go_enter Tryd.func10, Tryd.ntmps10
  go_wp2
  go_ret
  exact ⟨rfl, rfl⟩
theorem subFF_le (f : List Nd) (ls : List (List Nd)) : (subFF f ls).length ≤ 200 := by
  unfold subFF
  split
  · exact resL_le _
  · simp
set_option maxRecDepth 100000 in
set_option maxHeartbeats 16000000 in
theorem walk (f : List Nd) (A0 : Option Addr) (n0 c0 : Nat) (ls : List (List Nd)) (A1 : Option Addr) (n1 c1 : Nat) (w : World) (hE : EnvR w w.heap.size) (h0 : NdRow w A0 n0 c0 f) (h1 : LsRow w A1 n1 c1 ls) :
    Calls Tryd.prog 4 #[.slice A0 n0 c0, .slice A1 n1 c1] w fun e w' => e = .returned (.bool true) ∧ Below w.heap.size w w' := by
  obtain ⟨hR, _, _, hm⟩ := h0
  obtain ⟨hL, _, _⟩ := h1
  have HE := Lib.hid hE
  have HL := Lib.hid hL
  have HFE := Lib.hid (few_any A0 n0 c0 60 w)
  have HP := Lib.hid (fun (W : World) (h : Below w.heap.size w W) (hn : n1 ≤ 12) => pSubst_any f A0 n0 c0 ls A1 n1 c1 W ((hE.below h).up h.size) (up8 hR h) hm (hL.below h h.size) (by omega))
  have HQ := Lib.hid (fun (W : World) (h : Below w.heap.size w W) (hn : n1 ≤ 12) => rSubst_any f A0 n0 c0 ls A1 n1 c1 W (up8 hR h) hm (hL.below h h.size) (by omega))
  have HRL : Hid ((subFF f ls).length ≤ maxLen) := Lib.hid (Nat.le_trans (subFF_le f ls) (by decide))
  clear hE hR hL hm
  generalize subFF f ls = rf at *
  generalize subEE f ls = re at *
  by_cases hn : n0 ≤ 60
  · rw [decide_eq_true (show ((n0 : Nat) : Int) ≤ 60 by omega)] at HFE
    go_enter Tryd.func4, Tryd.ntmps4
    go_wp2_with fail
    refine (HFE.out).mono ?_
    rintro r w0 ⟨rfl, rfl⟩
    by_cases hnt : n1 ≤ 12
    · have hd1 : decide (12 < (n1 : Int)) = false := decide_eq_false (by omega)
      go_wp2
      go_loopw [6, 27] (fun _ i wr => ∃ k : Nat, k ≤ n1 ∧ i = .int .i64 k ∧ Hid (Below w.heap.size w wr)) (fun _ i _ => n1 - (intOf i).toNat)
      case atStart => exact ⟨0, Nat.zero_le _, rfl, Lib.hid (Below.refl _ _)⟩
      case round =>
        obtain ⟨k, hk, rfl, HBR⟩ := hrel
        by_cases hlt : k < n1
        · obtain ⟨ad, Aj, cj, rfl, hadb, hadc, hrd, hml⟩ := (HL.out.below HBR.out (Nat.le_refl _)).at_ hlt
          clear hrd hml
          generalize (ls.getD k []).length = lg at *
          have HFG := Lib.hid (few_any Aj lg cj 60 wr)
          by_cases hg : lg ≤ 60
          · rw [decide_eq_true (show ((lg : Nat) : Int) ≤ 60 by omega)] at HFG
            go_wp2_with fail
            refine (HFG.out).mono ?_
            rintro r w4 ⟨rfl, rfl⟩
            go_wp2
            go_roundw
            case rel => exact ⟨k + 1, by omega, by go_num, HBR⟩
            case measure => first | (simp [intOf]; done) | (simp [intOf]; omega)
          · rw [decide_eq_false (show ¬ ((lg : Nat) : Int) ≤ 60 by omega)] at HFG
            by_cases hg2 : lg ≤ 200
            · have hd2 : decide ((lg : Int) ≤ 200) = true := decide_eq_true (by omega)
              go_wp2_with fail
              refine (HFG.out).mono ?_
              rintro r w4 ⟨rfl, rfl⟩
              go_wp2_with fail
              refine (awake8_any wr ((HE.out.below HBR.out).up HBR.out.size)).mono ?_
              rintro r wz ⟨rfl, hbz⟩
              have HBY := Lib.hid (HBR.out.trans (hbz.mono HBR.out.size))
              clear hbz
              go_wp2
              go_ret
              exact ⟨rfl, HBY.out⟩
            · have hd2 : decide ((lg : Int) ≤ 200) = false := decide_eq_false (by omega)
              go_wp2_with fail
              refine (HFG.out).mono ?_
              rintro r w4 ⟨rfl, rfl⟩
              go_wp2
              go_roundw
              case rel => exact ⟨k + 1, by omega, by go_num, HBR⟩
              case measure => first | (simp [intOf]; done) | (simp [intOf]; omega)
        · have hkn : k = n1 := by omega
          subst hkn
          have CP := Lib.hid (HP.out wr HBR.out hnt)
          go_wp2_with fail
          refine (CP.out).mono ?_
          rintro r w4 ⟨Ap, cp, rfl, hrp, hb4⟩
          have HRP := Lib.hid hrp
          have HB4 := Lib.hid (HBR.out.trans (hb4.mono HBR.out.size))
          clear hrp hb4
          go_wp2_with fail
          refine (HQ.out w4 HB4.out hnt).mono ?_
          rintro r w5 ⟨Ar, cr, rfl, hrr, hb5⟩
          have HRR := Lib.hid hrr
          have HRP5 := Lib.hid (up8 HRP.out hb5)
          have HB5 := Lib.hid (HB4.out.trans (hb5.mono HB4.out.size))
          clear hrr hb5
          have CE := Lib.hid (rEqual_any rf rf Ap Ar rf.length rf.length cp cr w5 HRP5.out HRR.out HRL.out HRL.out)
          rw [decide_eq_true rfl] at CE
          go_wp2_with fail
          refine (CE.out).mono ?_
          rintro r w6 ⟨rfl, hb6⟩
          have HB6 := Lib.hid (HB5.out.trans (hb6.mono HB5.out.size))
          clear hb6
          have hre : (re == re) = true := by simp
          go_wp2_with fail
          refine (awake8_any w6 ((HE.out.below HB6.out).up HB6.out.size)).mono ?_
          rintro r wz ⟨rfl, hbz⟩
          have HBY := Lib.hid (HB6.out.trans (hbz.mono HB6.out.size))
          clear hbz
          go_wp2
          go_ret
          exact ⟨rfl, HBY.out⟩
    · have hd1 : decide (12 < (n1 : Int)) = true := decide_eq_true (by omega)
      go_wp2_with fail
      refine (awake8_any w ((HE.out.below (Below.refl w.heap.size w)).up (Below.refl w.heap.size w).size)).mono ?_
      rintro r wz ⟨rfl, hbz⟩
      have HBY := Lib.hid ((Below.refl w.heap.size w).trans (hbz.mono (Below.refl w.heap.size w).size))
      clear hbz
      go_wp2
      go_ret
      exact ⟨rfl, HBY.out⟩
  · rw [decide_eq_false (show ¬ ((n0 : Nat) : Int) ≤ 60 by omega)] at HFE
    by_cases hn2 : n0 ≤ 200
    · have hd : decide ((n0 : Int) ≤ 200) = true := decide_eq_true (by omega)
      go_enter Tryd.func4, Tryd.ntmps4
      go_wp2_with fail
      refine (HFE.out).mono ?_
      rintro r w0 ⟨rfl, rfl⟩
      go_wp2_with fail
      refine (awake8_any w ((HE.out.below (Below.refl w.heap.size w)).up (Below.refl w.heap.size w).size)).mono ?_
      rintro r wz ⟨rfl, hbz⟩
      have HBY := Lib.hid ((Below.refl w.heap.size w).trans (hbz.mono (Below.refl w.heap.size w).size))
      clear hbz
      go_wp2
      go_ret
      exact ⟨rfl, HBY.out⟩
    · have hd : decide ((n0 : Int) ≤ 200) = false := decide_eq_false (by omega)
      go_enter Tryd.func4, Tryd.ntmps4
      go_wp2_with fail
      refine (HFE.out).mono ?_
      rintro r w0 ⟨rfl, rfl⟩
      by_cases hnt : n1 ≤ 12
      · have hd1 : decide (12 < (n1 : Int)) = false := decide_eq_false (by omega)
        go_wp2
        go_loopw [6, 27] (fun _ i wr => ∃ k : Nat, k ≤ n1 ∧ i = .int .i64 k ∧ Hid (Below w.heap.size w wr)) (fun _ i _ => n1 - (intOf i).toNat)
        case atStart => exact ⟨0, Nat.zero_le _, rfl, Lib.hid (Below.refl _ _)⟩
        case round =>
          obtain ⟨k, hk, rfl, HBR⟩ := hrel
          by_cases hlt : k < n1
          · obtain ⟨ad, Aj, cj, rfl, hadb, hadc, hrd, hml⟩ := (HL.out.below HBR.out (Nat.le_refl _)).at_ hlt
            clear hrd hml
            generalize (ls.getD k []).length = lg at *
            have HFG := Lib.hid (few_any Aj lg cj 60 wr)
            by_cases hg : lg ≤ 60
            · rw [decide_eq_true (show ((lg : Nat) : Int) ≤ 60 by omega)] at HFG
              go_wp2_with fail
              refine (HFG.out).mono ?_
              rintro r w4 ⟨rfl, rfl⟩
              go_wp2
              go_roundw
              case rel => exact ⟨k + 1, by omega, by go_num, HBR⟩
              case measure => first | (simp [intOf]; done) | (simp [intOf]; omega)
            · rw [decide_eq_false (show ¬ ((lg : Nat) : Int) ≤ 60 by omega)] at HFG
              by_cases hg2 : lg ≤ 200
              · have hd2 : decide ((lg : Int) ≤ 200) = true := decide_eq_true (by omega)
                go_wp2_with fail
                refine (HFG.out).mono ?_
                rintro r w4 ⟨rfl, rfl⟩
                go_wp2_with fail
                refine (awake8_any wr ((HE.out.below HBR.out).up HBR.out.size)).mono ?_
                rintro r wz ⟨rfl, hbz⟩
                have HBY := Lib.hid (HBR.out.trans (hbz.mono HBR.out.size))
                clear hbz
                go_wp2
                go_ret
                exact ⟨rfl, HBY.out⟩
              · have hd2 : decide ((lg : Int) ≤ 200) = false := decide_eq_false (by omega)
                go_wp2_with fail
                refine (HFG.out).mono ?_
                rintro r w4 ⟨rfl, rfl⟩
                go_wp2
                go_roundw
                case rel => exact ⟨k + 1, by omega, by go_num, HBR⟩
                case measure => first | (simp [intOf]; done) | (simp [intOf]; omega)
          · have hkn : k = n1 := by omega
            subst hkn
            have CP := Lib.hid (HP.out wr HBR.out hnt)
            go_wp2_with fail
            refine (CP.out).mono ?_
            rintro r w4 ⟨Ap, cp, rfl, hrp, hb4⟩
            have HRP := Lib.hid hrp
            have HB4 := Lib.hid (HBR.out.trans (hb4.mono HBR.out.size))
            clear hrp hb4
            go_wp2_with fail
            refine (HQ.out w4 HB4.out hnt).mono ?_
            rintro r w5 ⟨Ar, cr, rfl, hrr, hb5⟩
            have HRR := Lib.hid hrr
            have HRP5 := Lib.hid (up8 HRP.out hb5)
            have HB5 := Lib.hid (HB4.out.trans (hb5.mono HB4.out.size))
            clear hrr hb5
            have CE := Lib.hid (rEqual_any rf rf Ap Ar rf.length rf.length cp cr w5 HRP5.out HRR.out HRL.out HRL.out)
            rw [decide_eq_true rfl] at CE
            go_wp2_with fail
            refine (CE.out).mono ?_
            rintro r w6 ⟨rfl, hb6⟩
            have HB6 := Lib.hid (HB5.out.trans (hb6.mono HB5.out.size))
            clear hb6
            have hre : (re == re) = true := by simp
            go_wp2_with fail
            refine (awake8_any w6 ((HE.out.below HB6.out).up HB6.out.size)).mono ?_
            rintro r wz ⟨rfl, hbz⟩
            have HBY := Lib.hid (HB6.out.trans (hbz.mono HB6.out.size))
            clear hbz
            go_wp2
            go_ret
            exact ⟨rfl, HBY.out⟩
      · have hd1 : decide (12 < (n1 : Int)) = true := decide_eq_true (by omega)
        go_wp2_with fail
        refine (awake8_any w ((HE.out.below (Below.refl w.heap.size w)).up (Below.refl w.heap.size w).size)).mono ?_
        rintro r wz ⟨rfl, hbz⟩
        have HBY := Lib.hid ((Below.refl w.heap.size w).trans (hbz.mono (Below.refl w.heap.size w).size))
        clear hbz
        go_wp2
        go_ret
        exact ⟨rfl, HBY.out⟩
set_option maxRecDepth 100000 in
theorem contract (H : Type) (enc : TypeId × Value → H) (W : World) (base : Nat) (args : Array Value) (ds gs : List (DataW H)) (before : List MemPlace)
    (hval : ∀ (j : Nat) t v, Tryd.f4.params[j]? = some t → args[j]? = some v → Value.okWide Tryd.prog W .any base t v)
    (hW : DataW.Whole enc Tryd.prog Tryd.f4.params.toList Rows.rewriteSubstSpec.vars false W args.toList ds gs before) (hE : EnvR W W.heap.size) :
    Calls Tryd.prog 4 args W fun e W' => ∃ v, e = .returned v ∧ Rows.rewriteSubstSpec.post enc Tryd.prog Tryd.f4 false true false false W args v W' := by
  have hW' := hW
  obtain ⟨p, q, hA0, hV, rfl, hfz, hnd⟩ := hW
  have hA : DataW.TrodAll enc Tryd.prog W 0 (fun _ => true) true Tryd.f4.params.toList args.toList ds p := hA0
  rw [Tryd.params4] at hA hval
  obtain ⟨v0, vs0, d0, ds0, p0, q0, hargs, rfl, rfl, h0, r0⟩ := trodAll_cons hA
  obtain ⟨v1, vs1, d1, ds1, p1, q1, rfl, rfl, rfl, h1, r1⟩ := trodAll_cons r0
  obtain ⟨rfl, rfl, rfl⟩ := trodAll_nil r1
  obtain rfl : args = #[v0, v1] := by cases args; simp_all
  obtain ⟨rfl, rfl⟩ := trodVars_none hV
  obtain ⟨af0, nf0, cf0, rfl⟩ := okWide_slice Tryd.underlying22 (hval 0 22 v0 rfl rfl)
  obtain ⟨f0, w0⟩ : ∃ l, NdRow W af0 nf0 cf0 l := by
    obtain ⟨fuel, hf⟩ := h0
    exact open_nodes hf
  have k0 := h0
  have lt0 : ∀ x ∈ p0, x.block < W.heap.size := by obtain ⟨m, hm⟩ := k0; exact DataW.trod_lt m _ _ _ hm
  obtain ⟨af1, nf1, cf1, rfl⟩ := okWide_slice Tryd.underlying29 (hval 1 29 v1 rfl rfl)
  obtain ⟨f1, w1⟩ : ∃ l, LsRow W af1 nf1 cf1 l := by
    obtain ⟨fuel, hf⟩ := h1
    exact open_lists hf
  have k1 := h1
  have lt1 : ∀ x ∈ p1, x.block < W.heap.size := by obtain ⟨m, hm⟩ := k1; exact DataW.trod_lt m _ _ _ hm
  clear hA0
  have hwalk := walk f0 af0 nf0 cf0 f1 af1 nf1 cf1 W hE w0 w1
  refine hwalk.mono fun e W' ⟨he, hg⟩ => ?_
  subst he
  exact ⟨_, rfl, _, _, _, [], _, [], hW', trodAll_mk1 (shut_bool Tryd.underlying4 _), (trodAll_cons_mk (Below.trod laidOut (by kernel_rfl) (of_decide_eq_true (by kernel_rfl)) k0 hg lt0) (trodAll_cons_mk (Below.trod laidOut (by kernel_rfl) (of_decide_eq_true (by kernel_rfl)) k1 hg lt1) trodAll_mk0)), rfl, hg.frame _, fun h => by cases h⟩
theorem reads (os : Os) {H : Type} (enc : TypeId × Value → H) : ∃ places, DataW.whole enc Tryd.prog ((laidW os).forCall (fun _ _ => 0) ⟨#[], #[.slice none 0 0, .slice none 0 0], []⟩).memory Tryd.f4.params.toList Rows.rewriteSubstSpec.vars false #[(.slice none 0 0 : Value), (.slice none 0 0 : Value)].toList 8 = some ([.nil, .nil], [], places) :=
  ⟨[], by kernel_rfl⟩
set_option maxRecDepth 100000 in
theorem lifted (os : Os) (started : os.Started) (H : Type) (enc : TypeId × Value → H) (F : Stop.Interp) :
    ReturnsInHanded {} Tryd.checked os 4 .any ((OpenSpec.ofChange Rows.rewriteSubstSpec).preRow enc Tryd.prog Tryd.f4 Rows.rewriteSubstRow.domain false Rows.rewriteSubstRow.laid) (((OpenSpec.ofChange Rows.rewriteSubstSpec).at F).post enc Tryd.prog Tryd.f4 false true false false) := by
  obtain ⟨places, hx⟩ := reads os enc
  refine returnsInHanded_of_row (C := Tryd.checked) (s := OpenSpec.ofChange Rows.rewriteSubstSpec) own started (by kernel_rfl) Tryd.func4
    (witness_row_atRef (enc := enc) (C := Tryd.checked) false (laidW os) #[.slice none 0 0, .slice none 0 0] (laidW_os os) (vars_ok os _) (heap_ok os _) (by kernel_rfl)
      (OpenSpec.preRow_of_cond 8 hx (by kernel_rfl) (fun k hk => by cases hk) (by kernel_rfl) (laid_met os _))) ?_
  intro W base args ds gs before hval hW _ _ _ hL hsh _
  exact contract H enc W base args ds gs before hval hW (env_of hL)
theorem said : Rows.RewriteSubstSaid :=
  OpenClaim.holds_of_cond 4 Tryd.f4 rfl rfl rfl rfl rfl rfl rfl ⟨rfl, rfl, rfl, rfl, rfl⟩ rfl rfl rfl rfl rfl (by kernel_rfl) Tryd.func4 (by kernel_rfl)
    (of_decide_eq_true (by kernel_rfl)) (by unfold Func.isWrapper; first | (rw [if_pos (by decide +kernel)]; kernel_rfl) | (rw [if_neg (by decide +kernel)]; exact ⟨rfl, rfl⟩))
    (fun os started H enc _ F => by rw [OpenClaim.pre_eq_preRow]; exact lifted os started H enc F)
theorem plain (f : FuncId) (fn : Func) (hf : Tryd.pinned.checked.prog.funcNamed "witting/wittinglaw08.RewriteSubst" = some f) (hfn : Tryd.pinned.checked.prog.funcs[f]? = some fn) :
    false = Tryd.pinned.checked.prog.looks [] ∧ ∀ (j : Nat) t, fn.params[j]? = some t → Tryd.pinned.checked.prog.wantsStandIn t = false := by
  obtain rfl : f = 4 := Option.some.inj ((show Tryd.prog.funcNamed "witting/wittinglaw08.RewriteSubst" = some 4 by kernel_rfl).symm.trans hf) |>.symm
  obtain rfl : fn = Tryd.f4 := (Option.some.inj (Tryd.func4.symm.trans hfn)).symm
  refine ⟨no_looks, fun j t ht => ?_⟩
  rw [Tryd.params4] at ht
  have hm : t ∈ [22, 29] := by simpa using Array.mem_of_getElem? ht
  have hall : ([22, 29].all fun u => !Tryd.prog.wantsStandIn u) = true := by kernel_rfl
  exact (show Tryd.prog.wantsStandIn t = false by simpa using List.all_eq_true.1 hall t hm)
theorem card : Rows.RewriteSubstCardSaid :=
  Claim7.holds_tied_plain_at .later [] _ _ _ _ said (fun _ h => by cases h) (by kernel_rfl) (fun _ h => by cases h) rewriteSubst_row_tie rfl ⟨rfl, rfl⟩ (by kernel_rfl) rfl plain (by kernel_rfl)
#print axioms card
end Go.Proofs.YtkcedppepepgfaaDoor.rewriteSubst
