/- WorldsetRestores (P1.6): a set is restored from its members and from its text; its members ascend, and are just those worlds that it has; for every set. Conditions: the package variables that the row lists hold what the program's text lays in them. -/
import Derived.Test.YtnkjcieeckibbaaDoorWp
import Derived.Test.YtnkjcieeckibbaaDoorWq
import Derived.Test.YtnkjcieeckibbaaDoorWr
namespace Go.Proofs.YtnkjcieeckibbaaDoor.worldsetRestores
open Go.ChangeShapes Go.WideShapes Go.ChangeAt Go.RowKit Go.Proofs.YtnkjcieeckibbaaDoor Go.Proofs.Ws
theorem shr_bit (s x : Nat) (hs : s < 18446744073709551616) : (bits .and .u64 ((s : Int) / 2 ^ x) 1 == 1) = s.testBit x := by
  rw [show ((s : Int) / 2 ^ x) = ((s / 2 ^ x : Nat) : Int) from by simp, and_one _ (Nat.lt_of_le_of_lt (Nat.div_le_self _ _) hs), Nat.testBit_eq_decide_div_mod_eq]
  rcases (show s / 2 ^ x % 2 = 0 ∨ s / 2 ^ x % 2 = 1 by omega) with h | h <;> rw [h] <;> rfl
set_option maxRecDepth 100000 in
set_option maxHeartbeats 3200000 in
theorem walk (s : Nat) (w : World) (hs : s < 18446744073709551616) (hE : Env w) :
    Calls Tryd.prog 7 #[.int .u64 s] w fun e w' => e = .returned (.bool true) ∧ Below w.heap.size w w' := by
  have HS := Lib.hid hs
  have HE := Lib.hid hE
  have hl := mem_length_le s
  have HM := Lib.hid (members_any s w hs hE.1)
  clear hs hE
  go_enter Tryd.func7, Tryd.ntmps7
  go_wp2_with fail
  refine (HM.out).mono ?_
  rintro e w1 ⟨A, c, rfl, hR, hb⟩
  have HR1 := Lib.hid hR
  have HB1 := Lib.hid hb
  have HE1 := Lib.hid (HE.out.below hb)
  clear hR hb
  have HOF : Hid (Calls Tryd.prog 16 #[.slice A (mem s).length c] w1 fun e w' => e = .returned (.tuple #[.int .u64 s, .int .i64 0]) ∧ w1 = w') := Lib.hid
    ((of_any ((mem s).map (fun k : Nat => (k : Int))) A (mem s).length c _ w1 (by rw [← iv_ints]; exact HR1.out) (by omega)).mono fun _ _ ⟨h, h'⟩ => ⟨by rw [h, of_mem s HS.out], h'⟩)
  go_wp2_with fail
  refine (HOF.out).mono ?_
  rintro e w' ⟨rfl, rfl⟩
  go_wp2_with fail
  refine (format_any s w1 HS.out HE1.out.1).mono ?_
  rintro e w2 ⟨rfl, hb⟩
  have HR2 := Lib.hid ((HR1.out.below hb).more hb.size)
  have HB2 := Lib.hid (HB1.out.trans (hb.mono HB1.out.size))
  have HE2 := Lib.hid (HE.out.below HB2.out)
  clear hb HOF
  have hlen : (fmtV s).length ≤ 1000000 := fmt_len s
  obtain ⟨t, ht⟩ : ∃ t : ByteArray, t = ⟨(fmtV s).toArray⟩ := ⟨_, rfl⟩
  have HP : Hid (Calls Tryd.prog 37 #[.string t] w2 fun e w' => e = .returned (.tuple #[.int .u64 s, .int .i64 0]) ∧ Below w2.heap.size w2 w') := Lib.hid
    ((parse_any t w2 (by rw [ba_size, ht]; simpa using hlen) HE2.out).mono fun _ _ ⟨h, h'⟩ => ⟨by rw [h, show t.data.toList = fmtV s from by rw [ht], parse_fmt s HS.out], h'⟩)
  rw [← ht]
  clear ht hlen
  go_wp2_with fail
  refine (HP.out).mono ?_
  rintro e w3 ⟨rfl, hb⟩
  have hR3 := (HR2.out.below hb).more hb.size
  have HB3 := Lib.hid (HB2.out.trans (hb.mono HB2.out.size))
  have HE3 := Lib.hid (HE.out.below HB3.out)
  clear hb HP HR1 HR2 HE1 HE2
  have hss : ((s : Int) != (s : Int)) = false := by simp
  have hll : (((mem s).length : Int) != ((mem s).length : Int)) = false := by simp
  go_wp2_with fail
  refine (count_any s w3 HS.out).mono ?_
  rintro e w' ⟨rfl, rfl⟩
  go_wp2_with fail
  go_loop [8, 47] (fun kv i => ∃ x : Nat, x ≤ 64 ∧ i = .int .i64 x ∧ kv = .int .i64 ((memTo s x).length : Nat)) (fun _ i => 64 - (intOf i).toNat)
  case atStart => exact ⟨0, Nat.zero_le _, rfl, rfl⟩
  case round =>
    obtain ⟨x, hx, rfl, rfl⟩ := hrel
    by_cases hlt : x < 64
    · have hin := shr_bit s x HS.out
      cases hb : s.testBit x
      · have H1 := Lib.hid (has_no s x w3 HS.out (by rw [hasB_nat s x hlt, hb]))
        have HB := Lib.hid hb
        rw [hb] at hin
        clear hb
        go_wp2_with (go_at_call 27; refine (H1.out).mono ?_; rintro e w' ⟨rfl, rfl⟩)
        go_round
        case rel => exact ⟨x + 1, by omega, by go_num, by rw [memTo_miss s x HB.out]⟩
        case measure => simp [intOf]; omega
      · have H1 := Lib.hid (has_yes s x w3 HS.out (by rw [hasB_nat s x hlt, hb]))
        obtain ⟨hat, hlt2⟩ := mem_at s x hlt hb
        obtain ⟨ad, u, rfl, hbk, hu, hc⟩ := hR3.at_ hlt2
        have hu2 : u = .int .i64 (x : Int) := by
          unfold iv at hu
          rw [List.getElem?_map, hat] at hu
          simpa using hu.symm
        subst hu2
        have HB := Lib.hid hb
        rw [hb] at hin
        have hxx : ((x : Int) != (x : Int)) = false := by simp
        have hto := memTo_le s x
        obtain ⟨k, hk⟩ : ∃ k, k = (memTo s x).length := ⟨_, rfl⟩
        rw [← hk] at hlt2 hc hto
        have HK : Hid (k + 1 = (memTo s (x + 1)).length) := Lib.hid (by rw [memTo_hit s x HB.out, List.length_append, hk]; rfl)
        rw [← hk]
        clear hb hat hu hk
        go_wp2_with (go_at_call 27; refine (H1.out).mono ?_; rintro e w' ⟨rfl, rfl⟩)
        go_round
        case rel => exact ⟨x + 1, by omega, by go_num, by rw [← HK.out]; go_num⟩
        case measure => simp [intOf]; omega
    · have hx64 : x = 64 := by omega
      subst hx64
      have HA := Lib.hid (awake_any w3 HE3.out)
      rw [memTo_64]
      by_cases hm0 : (mem s).length = 0
      · have h0 : s = 0 := by
          apply Classical.byContradiction
          intro h
          rw [mem_step s h HS.out] at hm0
          cases hm0
        have HL : Hid (Calls Tryd.prog 25 #[.int .u64 s] w3 fun e w' => e = .returned (.int .i64 (-1)) ∧ w3 = w') := Lib.hid
          ((lowest_any s w3 HS.out HE3.out.1).mono fun _ _ ⟨h, h'⟩ => ⟨by rw [h, show lowV s = -1 from by unfold lowV; rw [if_pos h0]], h'⟩)
        have hmz : decide (0 < (mem s).length) = false := decide_eq_false (by omega)
        have hmz2 : (mem s).length ≤ 0 := by omega
        clear hm0 h0
        go_wp2_with fail
        refine (HL.out).mono ?_
        rintro e w' ⟨rfl, rfl⟩
        go_wp2_with fail
        refine (HA.out).mono ?_
        rintro e w4 ⟨rfl, hb⟩
        have HB4 := Lib.hid (HB3.out.trans (hb.mono HB3.out.size))
        clear hb
        go_wp2
        go_ret
        exact ⟨rfl, HB4.out⟩
      · have hmz : decide (0 < (mem s).length) = true := decide_eq_true (by omega)
        have hmz2 : 0 < (mem s).length := by omega
        clear hm0
        go_wp2_with fail
        refine (HA.out).mono ?_
        rintro e w4 ⟨rfl, hb⟩
        have HB4 := Lib.hid (HB3.out.trans (hb.mono HB3.out.size))
        clear hb
        go_wp2
        go_ret
        exact ⟨rfl, HB4.out⟩
set_option maxRecDepth 100000 in
theorem contract (H : Type) (enc : TypeId × Value → H) (W : World) (base : Nat) (args : Array Value) (ds gs : List (DataW H)) (before : List MemPlace)
    (hval : ∀ (j : Nat) t v, Tryd.f7.params[j]? = some t → args[j]? = some v → Value.okWide Tryd.prog W .any base t v)
    (hW : DataW.Whole enc Tryd.prog Tryd.f7.params.toList Rows.worldsetRestoresSpec.vars false W args.toList ds gs before) (hE : Env W) :
    Calls Tryd.prog 7 args W fun e W' => ∃ v, e = .returned v ∧ Rows.worldsetRestoresSpec.post enc Tryd.prog Tryd.f7 false true false false W args v W' := by
  have hW' := hW
  obtain ⟨p, q, hA0, hV, rfl, hfz, hnd⟩ := hW
  have hA : DataW.TrodAll enc Tryd.prog W 0 (fun _ => true) true Tryd.f7.params.toList args.toList ds p := hA0
  rw [Tryd.params7] at hA hval
  obtain ⟨v0, vs0, d0, ds0, p0, q0, hargs, rfl, rfl, h0, r0⟩ := trodAll_cons hA
  obtain ⟨rfl, rfl, rfl⟩ := trodAll_nil r0
  obtain rfl : args = #[v0] := by cases args; simp_all
  obtain ⟨rfl, rfl⟩ := trodVars_none hV
  obtain ⟨a0, rfl, rfl, rfl, w0⟩ := open_int Tryd.underlying23 (hval 0 23 v0 rfl rfl) h0
  clear hA0
  simp only [List.append_nil] at hW'
  have b0 := bounds_u64 w0
  obtain ⟨s, rfl⟩ := Int.eq_ofNat_of_zero_le b0.1
  refine (walk s W (by omega) hE).mono fun e W' ⟨he, hg⟩ => ?_
  subst he
  exact ⟨_, rfl, _, _, _, [], _, [], hW', trodAll_mk1 (shut_bool Tryd.underlying4 _), (trodAll_cons_mk (shut_int Tryd.underlying23 w0) trodAll_mk0), rfl, hg.frame _, fun h => by cases h⟩
theorem reads (os : Os) {H : Type} (enc : TypeId × Value → H) : ∃ places, DataW.whole enc Tryd.prog ((laidW os).forCall (fun _ _ => 0) ⟨#[], #[.int .u64 0], []⟩).memory Tryd.f7.params.toList Rows.worldsetRestoresSpec.vars false #[Value.int .u64 0].toList 8 = some ([.lit (.int .u64 0)], [], places) :=
  ⟨[], by kernel_rfl⟩
set_option maxRecDepth 100000 in
theorem lifted (os : Os) (started : os.Started) (H : Type) (enc : TypeId × Value → H) (F : Stop.Interp) :
    ReturnsInHanded {} Tryd.checked os 7 .any ((OpenSpec.ofChange Rows.worldsetRestoresSpec).preRow enc Tryd.prog Tryd.f7 Rows.worldsetRestoresRow.domain false Rows.worldsetRestoresRow.laid) (((OpenSpec.ofChange Rows.worldsetRestoresSpec).at F).post enc Tryd.prog Tryd.f7 false true false false) := by
  obtain ⟨places, hx⟩ := reads os enc
  refine returnsInHanded_of_row (C := Tryd.checked) (s := OpenSpec.ofChange Rows.worldsetRestoresSpec) own started (by kernel_rfl) Tryd.func7
    (witness_row_at (enc := enc) (C := Tryd.checked) false (laidW os) #[.int .u64 0] (laidW_os os) (vars_ok os _) (heap_ok os _) (by kernel_rfl)
      (OpenSpec.preRow_of_cond 8 hx (by kernel_rfl) (fun k hk => by cases hk) (by kernel_rfl) (laid_met os _))) ?_
  intro W base args ds gs before hval hW _ _ _ hL hsh _
  exact contract H enc W base args ds gs before hval hW (env_of hL hsh)
theorem said : Rows.WorldsetRestoresSaid :=
  OpenClaim.holds_of_cond 7 Tryd.f7 rfl rfl rfl rfl rfl rfl rfl ⟨rfl, rfl, rfl, rfl, rfl⟩ rfl rfl rfl rfl rfl (by kernel_rfl) Tryd.func7 (by kernel_rfl)
    (of_decide_eq_true (by kernel_rfl)) (by unfold Func.isWrapper; first | (rw [if_pos (by decide +kernel)]; kernel_rfl) | (rw [if_neg (by decide +kernel)]; exact ⟨rfl, rfl⟩))
    (fun os started H enc _ F => by rw [OpenClaim.pre_eq_preRow]; exact lifted os started H enc F)
theorem plain (f : FuncId) (fn : Func) (hf : Tryd.pinned.checked.prog.funcNamed "witting/wittinglaw01.WorldsetRestores" = some f) (hfn : Tryd.pinned.checked.prog.funcs[f]? = some fn) :
    false = Tryd.pinned.checked.prog.looks [] ∧ ∀ (j : Nat) t, fn.params[j]? = some t → Tryd.pinned.checked.prog.wantsStandIn t = false := by
  obtain rfl : f = 7 := Option.some.inj ((show Tryd.prog.funcNamed "witting/wittinglaw01.WorldsetRestores" = some 7 by kernel_rfl).symm.trans hf) |>.symm
  obtain rfl : fn = Tryd.f7 := (Option.some.inj (Tryd.func7.symm.trans hfn)).symm
  refine ⟨no_looks, fun j t ht => ?_⟩
  rw [Tryd.params7] at ht
  have hm : t ∈ [23] := by simpa using Array.mem_of_getElem? ht
  have hall : ([23].all fun u => !Tryd.prog.wantsStandIn u) = true := by kernel_rfl
  exact (show Tryd.prog.wantsStandIn t = false by simpa using List.all_eq_true.1 hall t hm)
theorem card : Rows.WorldsetRestoresCardSaid :=
  Claim7.holds_tied_plain_at .later [] _ _ _ _ said (fun _ h => by cases h) (by kernel_rfl) (fun _ h => by cases h) worldsetRestores_row_tie rfl ⟨rfl, rfl⟩ (by kernel_rfl) rfl plain (by kernel_rfl)
#print axioms card
end Go.Proofs.YtnkjcieeckibbaaDoor.worldsetRestores
