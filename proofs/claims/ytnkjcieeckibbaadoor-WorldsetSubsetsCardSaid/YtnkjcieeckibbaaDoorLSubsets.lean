/- WorldsetSubsets (P1.6): the subsets of a set of up to 12 worlds ascend, lie in it, are as many as a power of two says, and end with the set. Conditions: the package variables that the row lists hold what the program's text lays in them. -/
import Derived.Test.YtnkjcieeckibbaaDoorWp
import Derived.Test.YtnkjcieeckibbaaDoorWq
import Derived.Test.YtnkjcieeckibbaaDoorBm6
namespace Go.Proofs.YtnkjcieeckibbaaDoor.worldsetSubsets
open Go.ChangeShapes Go.WideShapes Go.ChangeAt Go.RowKit Go.Proofs.YtnkjcieeckibbaaDoor Go.Proofs.Ws
set_option maxRecDepth 100000 in
set_option maxHeartbeats 3200000 in
theorem walk (s : Nat) (w : World) (hs : s < 18446744073709551616) (hE : Env w) :
    Calls Tryd.prog 9 #[.int .u64 s] w fun e w' => e = .returned (.bool true) ∧ Below w.heap.size w w' := by
  have HB := Lib.hid (bits_any s w hs)
  have HA := Lib.hid (awake_any w hE)
  by_cases h12 : 12 < (mem s).length
  · clear hs hE
    go_enter Tryd.func9, Tryd.ntmps9
    go_wp2_with (go_at_call 41; refine (HB.out).mono ?_; rintro e w' ⟨rfl, rfl⟩)
    refine (HA.out).mono ?_
    rintro e w2 ⟨rfl, hb⟩
    have HB2 := Lib.hid hb
    clear hb
    go_wp2
    go_ret
    exact ⟨rfl, HB2.out⟩
  · have hl : (mem s).length ≤ 12 := by omega
    have HS := Lib.hid hs
    clear hs hE h12
    obtain ⟨N, hN⟩ : ∃ N, N = 2 ^ (mem s).length := ⟨_, rfl⟩
    have hN2 : N ≤ 4096 := by rw [hN]; exact Nat.pow_le_pow_right (by decide) (show (mem s).length ≤ 12 by omega)
    have hN1 : 1 ≤ N := by rw [hN]; exact Nat.two_pow_pos _
    have hw : wrap64 (2 ^ (mem s).length) = (N : Int) := by
      rw [show ((2 : Int) ^ (mem s).length) = (N : Int) from by rw [hN]; simp]
      exact IntWalk.wrap64_in _ ⟨by omega, by omega⟩
    have HN := Lib.hid hN
    have HE2 : Hid (subV s (N : Int) = (0, false)) := Lib.hid (by
      unfold subV
      rw [if_neg (by omega), Int.toNat_natCast, hN, Nat.div_self (Nat.two_pow_pos _), if_neg (by decide)])
    clear hN
    go_enter Tryd.func9, Tryd.ntmps9
    go_wp2_with (go_at_call 41; refine (HB.out).mono ?_; rintro e w' ⟨rfl, rfl⟩)
    simp only [hw]
    go_loop [4, 19] (fun lv i => ∃ k la : Nat, k ≤ N ∧ i = .int .i64 k ∧ lv = .int .u64 la ∧ Hid (la = if k = 0 then 0 else subL (mem s) (k - 1))) (fun _ i => N - (intOf i).toNat)
    case atStart => exact ⟨0, 0, Nat.zero_le _, rfl, rfl, Lib.hid rfl⟩
    case round =>
      obtain ⟨k, la, hk, rfl, rfl, Hla⟩ := hrel
      by_cases hlt : k < N
      · have HV : Hid (subV s (k : Int) = (subL (mem s) k, true)) := Lib.hid (by
          unfold subV
          rw [if_neg (by omega), Int.toNat_natCast, if_pos (Nat.div_eq_of_lt (by have := HN.out; omega))])
        have H5 := Lib.hid (subset_any s k w HS.out (by omega))
        obtain ⟨t, ht⟩ : ∃ t, t = subL (mem s) k := ⟨_, rfl⟩
        have H6 : Hid (Calls Tryd.prog 35 #[.int .u64 s, .int .i64 k] w fun e w' => e = .returned (.tuple #[.int .u64 t, .bool true]) ∧ w = w') := Lib.hid (H5.out.mono fun _ _ ⟨h, h'⟩ => ⟨by rw [h, HV.out, ht], h'⟩)
        have ho : (bits .andNot .u64 (t : Int) (s : Int) != 0) = false := by
          rw [u64_andNot_nat t s (by rw [ht]; exact subL_lt64 s k) HS.out, ht, subL_in s k HS.out]
          rfl
        have HT := Lib.hid ht
        have HR : Hid (t = if k + 1 = 0 then 0 else subL (mem s) (k + 1 - 1)) := Lib.hid (by rw [if_neg (by omega), ht]; rfl)
        by_cases hk0 : k = 0
        · subst hk0
          clear H5 ht
          go_wp2_with (go_at_call 35; refine (H6.out).mono ?_; rintro e w' ⟨rfl, rfl⟩)
          go_round
          case rel => exact ⟨0 + 1, t, by omega, by go_num, rfl, HR⟩
          case measure => simp [intOf]; omega
        · have hlt2 : la < t := by
            have h1 := Hla.out
            rw [if_neg hk0] at h1
            rw [h1, ht]
            exact subL_lt (mem s) 0 (k - 1) k (asc_mem s) (by omega) (by have := HN.out; omega)
          have hkp : 0 < k := by omega
          clear H5 ht hk0
          go_wp2_with (go_at_call 35; refine (H6.out).mono ?_; rintro e w' ⟨rfl, rfl⟩)
          go_round
          case rel => exact ⟨k + 1, t, by omega, by go_num, rfl, HR⟩
          case measure => simp [intOf]; omega
      · have hla : la = s := by
          rw [Hla.out, if_neg (by omega), show k - 1 = 2 ^ (mem s).length - 1 from by have := HN.out; omega]
          exact subL_all s HS.out
        subst hla
        have H5 := Lib.hid (subset_any la N w HS.out (by omega))
        have H6 : Hid (Calls Tryd.prog 35 #[.int .u64 la, .int .i64 N] w fun e w' => e = .returned (.tuple #[.int .u64 0, .bool false]) ∧ w = w') := Lib.hid (H5.out.mono fun _ _ ⟨h, h'⟩ => ⟨by rw [h, HE2.out]; rfl, h'⟩)
        clear H5 Hla HB
        go_wp2_with (go_at_call 35; refine (H6.out).mono ?_; rintro e w' ⟨rfl, rfl⟩)
        refine (HA.out).mono ?_
        rintro e w2 ⟨rfl, hb⟩
        have HB2 := Lib.hid hb
        clear hb
        go_wp2
        go_ret
        exact ⟨rfl, HB2.out⟩
set_option maxRecDepth 100000 in
theorem contract (H : Type) (enc : TypeId × Value → H) (W : World) (base : Nat) (args : Array Value) (ds gs : List (DataW H)) (before : List MemPlace)
    (hval : ∀ (j : Nat) t v, Tryd.f9.params[j]? = some t → args[j]? = some v → Value.okWide Tryd.prog W .any base t v)
    (hW : DataW.Whole enc Tryd.prog Tryd.f9.params.toList Rows.worldsetSubsetsSpec.vars false W args.toList ds gs before) (hE : Env W) :
    Calls Tryd.prog 9 args W fun e W' => ∃ v, e = .returned v ∧ Rows.worldsetSubsetsSpec.post enc Tryd.prog Tryd.f9 false true false false W args v W' := by
  have hW' := hW
  obtain ⟨p, q, hA0, hV, rfl, hfz, hnd⟩ := hW
  have hA : DataW.TrodAll enc Tryd.prog W 0 (fun _ => true) true Tryd.f9.params.toList args.toList ds p := hA0
  rw [Tryd.params9] at hA hval
  obtain ⟨v0, vs0, d0, ds0, p0, q0, hargs, rfl, rfl, h0, r0⟩ := trodAll_cons hA
  obtain ⟨rfl, rfl, rfl⟩ := trodAll_nil r0
  obtain rfl : args = #[v0] := by cases args; simp_all
  obtain ⟨rfl, rfl⟩ := trodVars_none hV
  obtain ⟨a0, rfl, rfl, rfl, w0⟩ := open_int Tryd.underlying23 (hval 0 23 v0 rfl rfl) h0
  clear hA0
  simp only [List.append_nil] at hW'
  have b0 := bounds_u64 w0
  obtain ⟨s, rfl⟩ := Int.eq_ofNat_of_zero_le b0.1
  refine (walk s W (by omega) hE).mono fun e W' ⟨he, hg⟩ => ?_
  subst he
  exact ⟨_, rfl, _, _, _, [], _, [], hW', trodAll_mk1 (shut_bool Tryd.underlying4 _), (trodAll_cons_mk (shut_int Tryd.underlying23 w0) trodAll_mk0), rfl, hg.frame _, fun h => by cases h⟩
theorem reads (os : Os) {H : Type} (enc : TypeId × Value → H) : ∃ places, DataW.whole enc Tryd.prog ((laidW os).forCall (fun _ _ => 0) ⟨#[], #[.int .u64 0], []⟩).memory Tryd.f9.params.toList Rows.worldsetSubsetsSpec.vars false #[Value.int .u64 0].toList 8 = some ([.lit (.int .u64 0)], [], places) :=
  ⟨[], by kernel_rfl⟩
set_option maxRecDepth 100000 in
theorem lifted (os : Os) (started : os.Started) (H : Type) (enc : TypeId × Value → H) (F : Stop.Interp) :
    ReturnsInHanded {} Tryd.checked os 9 .any ((OpenSpec.ofChange Rows.worldsetSubsetsSpec).preRow enc Tryd.prog Tryd.f9 Rows.worldsetSubsetsRow.domain false Rows.worldsetSubsetsRow.laid) (((OpenSpec.ofChange Rows.worldsetSubsetsSpec).at F).post enc Tryd.prog Tryd.f9 false true false false) := by
  obtain ⟨places, hx⟩ := reads os enc
  refine returnsInHanded_of_row (C := Tryd.checked) (s := OpenSpec.ofChange Rows.worldsetSubsetsSpec) own started (by kernel_rfl) Tryd.func9
    (witness_row_at (enc := enc) (C := Tryd.checked) false (laidW os) #[.int .u64 0] (laidW_os os) (vars_ok os _) (heap_ok os _) (by kernel_rfl)
      (OpenSpec.preRow_of_cond 8 hx (by kernel_rfl) (fun k hk => by cases hk) (by kernel_rfl) (laid_met os _))) ?_
  intro W base args ds gs before hval hW _ _ _ hL hsh _
  exact contract H enc W base args ds gs before hval hW (env_of hL hsh)
theorem said : Rows.WorldsetSubsetsSaid :=
  OpenClaim.holds_of_cond 9 Tryd.f9 rfl rfl rfl rfl rfl rfl rfl ⟨rfl, rfl, rfl, rfl, rfl⟩ rfl rfl rfl rfl rfl (by kernel_rfl) Tryd.func9 (by kernel_rfl)
    (of_decide_eq_true (by kernel_rfl)) (by unfold Func.isWrapper; first | (rw [if_pos (by decide +kernel)]; kernel_rfl) | (rw [if_neg (by decide +kernel)]; exact ⟨rfl, rfl⟩))
    (fun os started H enc _ F => by rw [OpenClaim.pre_eq_preRow]; exact lifted os started H enc F)
theorem plain (f : FuncId) (fn : Func) (hf : Tryd.pinned.checked.prog.funcNamed "witting/wittinglaw01.WorldsetSubsets" = some f) (hfn : Tryd.pinned.checked.prog.funcs[f]? = some fn) :
    false = Tryd.pinned.checked.prog.looks [] ∧ ∀ (j : Nat) t, fn.params[j]? = some t → Tryd.pinned.checked.prog.wantsStandIn t = false := by
  obtain rfl : f = 9 := Option.some.inj ((show Tryd.prog.funcNamed "witting/wittinglaw01.WorldsetSubsets" = some 9 by kernel_rfl).symm.trans hf) |>.symm
  obtain rfl : fn = Tryd.f9 := (Option.some.inj (Tryd.func9.symm.trans hfn)).symm
  refine ⟨no_looks, fun j t ht => ?_⟩
  rw [Tryd.params9] at ht
  have hm : t ∈ [23] := by simpa using Array.mem_of_getElem? ht
  have hall : ([23].all fun u => !Tryd.prog.wantsStandIn u) = true := by kernel_rfl
  exact (show Tryd.prog.wantsStandIn t = false by simpa using List.all_eq_true.1 hall t hm)
theorem card : Rows.WorldsetSubsetsCardSaid :=
  Claim7.holds_tied_plain_at .later [] _ _ _ _ said (fun _ h => by cases h) (by kernel_rfl) (fun _ h => by cases h) worldsetSubsets_row_tie rfl ⟨rfl, rfl⟩ (by kernel_rfl) rfl plain (by kernel_rfl)
#print axioms card
end Go.Proofs.YtnkjcieeckibbaaDoor.worldsetSubsets
