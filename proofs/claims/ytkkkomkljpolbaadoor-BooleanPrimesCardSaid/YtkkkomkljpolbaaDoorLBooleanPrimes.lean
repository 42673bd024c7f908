/- Layer 9: BooleanPrimes: the prime implicants of a table of at most 4 facts, or its error, are the specified ones. -/
import Derived.Test.YtkkkomkljpolbaaDoorNIp
import Derived.Test.YtkkkomkljpolbaaDoorNIw
import Derived.Test.YtkkkomkljpolbaaDoorNIy
namespace Go.Proofs.YtkkkomkljpolbaaDoor.booleanPrimes
open Go.ChangeShapes Go.WideShapes Go.ChangeAt Go.RowKit Go.Proofs.YtkkkomkljpolbaaDoor Go.Proofs.YtkkkomkljpolbaaDoor.bol Go.Proofs.Ws Go.Maps
open Go.ChangeMaps (open_string shut_string)
theorem primes_few {t : Nat} {k : Int} : (if chkT t k = 0 then primesF t k.toNat else []).length ≤ 1000000 := by
  split
  · rename_i h
    have h06 : 0 ≤ k ∧ k ≤ 6 := by
      apply Classical.byContradiction
      intro h2
      unfold chkT at h
      rw [if_neg h2] at h
      cases h
    unfold primesF
    have h64 : 2 ^ k.toNat ≤ 64 := Nat.pow_le_pow_right (n := 2) (by decide) (show k.toNat ≤ 6 by omega)
    have hl := List.length_filter_le (primeB t k.toNat) (pairsL (2 ^ k.toNat))
    have h2 := up_len (P := 2 ^ k.toNat) (care := 2 ^ k.toNat) (val := 0) h64 (Nat.le_refl _) (Nat.zero_le _)
    rw [up_all] at h2
    omega
  · simp
theorem primes_prog (t : Nat) (ht : t < 18446744073709551616) (k : Int) (W : World) : Calls Tryd.prog 39 #[.int .u64 (t : Int), .int .i64 k] W fun e w' => ∃ A c, e = .returned (.tuple #[.slice A (if chkT t k = 0 then primesF t k.toNat else []).length c, .int .i64 (chkT t k)]) ∧ Reads w' w'.heap.size 2 A (if chkT t k = 0 then primesF t k.toNat else []).length (cbs (if chkT t k = 0 then primesF t k.toNat else [])) ∧ Below W.heap.size W w' :=
  (pImpl_any t ht k W).mono (by
    rintro e w1 ⟨A1, c1, l1, rfl, hr1, hn1, hs1, hb1⟩
    have hl1 : l1 = (if chkT t k = 0 then primesF t k.toNat else []) := by
      by_cases hz : chkT t k = 0
      · rw [if_pos hz]
        obtain ⟨h1, h2⟩ := hs1 hz
        exact primes_are h1 h2
      · rw [if_neg hz]
        exact hn1 hz
    subst hl1
    exact ⟨A1, c1, rfl, Reads.of_own hr1, hb1⟩)
theorem primes_ref (t : Nat) (ht : t < 18446744073709551616) (k : Int) (W : World) : Calls Tryd.prog 40 #[.int .u64 (t : Int), .int .i64 k] W fun e w' => ∃ A c, e = .returned (.tuple #[.slice A (if chkT t k = 0 then primesF t k.toNat else []).length c, .int .i64 (chkT t k)]) ∧ Reads w' w'.heap.size 2 A (if chkT t k = 0 then primesF t k.toNat else []).length (cbs (if chkT t k = 0 then primesF t k.toNat else [])) ∧ Below W.heap.size W w' :=
  (rImpl_any t ht k W).mono (by
    rintro e w1 ⟨A1, c1, rfl, hr1, hb1⟩
    exact ⟨A1, c1, rfl, Reads.of_own hr1, hb1⟩)
set_option maxRecDepth 100000 in
set_option maxHeartbeats 4000000 in
theorem walk (t : Nat) (ht : t < 18446744073709551616) (k : Int) (w : World) (hE : EnvB w w.heap.size) :
    Calls Tryd.prog 9 #[.int .u64 (t : Int), .int .i64 k] w fun e w' => e = .returned (.bool true) ∧ Below w.heap.size w w' := by
  have HE := Lib.hid hE
  have HB0 : Hid (Below w.heap.size w w) := Lib.hid (Below.refl _ _)
  by_cases h5 : k = 5
  · subst h5
    clear hE
    go_enter Tryd.func9, Tryd.ntmps9
    go_wp2_with fail
    refine (awake9_any _ ((HE.out.below HB0.out).up HB0.out.size)).mono ?_
    rintro e wz ⟨rfl, hbz⟩
    have HBz := Lib.hid (HB0.out.trans (hbz.mono HB0.out.size))
    clear hbz
    go_wp2
    go_ret
    exact ⟨rfl, HBz.out⟩
  by_cases h6 : k = 6
  · subst h6
    clear hE h5
    go_enter Tryd.func9, Tryd.ntmps9
    go_wp2_with fail
    refine (awake9_any _ ((HE.out.below HB0.out).up HB0.out.size)).mono ?_
    rintro e wz ⟨rfl, hbz⟩
    have HBz := Lib.hid (HB0.out.trans (hbz.mono HB0.out.size))
    clear hbz
    go_wp2
    go_ret
    exact ⟨rfl, HBz.out⟩
  have d5 : (k == 5) = false := by simpa using h5
  have d6 : (k == 6) = false := by simpa using h6
  have HP := Lib.hid (fun (W : World) => primes_prog t ht k W)
  have HQ := Lib.hid (fun (W : World) => primes_ref t ht k W)
  have HL := Lib.hid (primes_few (t := t) (k := k))
  generalize (if chkT t k = 0 then primesF t k.toNat else []) = l at *
  generalize chkT t k = te at *
  clear hE h5 h6
  go_enter Tryd.func9, Tryd.ntmps9
  go_wp2_with fail
  refine (HP.out _).mono ?_
  rintro e w1 ⟨A1, c1, rfl, hr1, hb1⟩
  have HB1 : Hid (Below w.heap.size w w1) := Lib.hid (HB0.out.trans (hb1.mono HB0.out.size))
  have HR1 := Lib.hid hr1
  clear hr1
  clear hb1
  go_wp2_with fail
  refine (HQ.out _).mono ?_
  rintro e w2 ⟨A2, c2, rfl, hr2, hb2⟩
  have HB2 : Hid (Below w.heap.size w w2) := Lib.hid (HB1.out.trans (hb2.mono HB1.out.size))
  have HR1 := Lib.hid (up8 HR1.out hb2)
  have HR2 := Lib.hid hr2
  clear hr2
  clear hb2
  have HSC := Lib.hid (sameCubes_any l l A1 A2 _ _ c1 c2 w2 HR1.out HR2.out HL.out HL.out)
  rw [decide_eq_true rfl] at HSC
  have e2 : (te == te) = true := by simp
  go_wp2_with fail
  refine (HSC.out).mono ?_
  rintro e w3 ⟨rfl, hb3⟩
  have HB3 : Hid (Below w.heap.size w w3) := Lib.hid (HB2.out.trans (hb3.mono HB2.out.size))
  clear hb3
  go_wp2_with fail
  refine (awake9_any _ ((HE.out.below HB3.out).up HB3.out.size)).mono ?_
  rintro e wz ⟨rfl, hbz⟩
  have HBz := Lib.hid (HB3.out.trans (hbz.mono HB3.out.size))
  clear hbz
  go_wp2
  go_ret
  exact ⟨rfl, HBz.out⟩
set_option maxRecDepth 100000 in
theorem contract (H : Type) (enc : TypeId × Value → H) (W : World) (base : Nat) (args : Array Value) (ds gs : List (DataW H)) (before : List MemPlace)
    (hval : ∀ (j : Nat) t v, Tryd.f9.params[j]? = some t → args[j]? = some v → Value.okWide Tryd.prog W .any base t v)
    (hW : DataW.Whole enc Tryd.prog Tryd.f9.params.toList Rows.booleanPrimesSpec.vars false W args.toList ds gs before) (hE : EnvB W W.heap.size) :
    Calls Tryd.prog 9 args W fun e W' => ∃ v, e = .returned v ∧ Rows.booleanPrimesSpec.post enc Tryd.prog Tryd.f9 false true false false W args v W' := by
  have hW' := hW
  obtain ⟨p, q, hA0, hV, rfl, hfz, hnd⟩ := hW
  have hA : DataW.TrodAll enc Tryd.prog W 0 (fun _ => true) true Tryd.f9.params.toList args.toList ds p := hA0
  rw [Tryd.params9] at hA hval
  obtain ⟨v0, vs0, d0, ds0, p0, q0, hargs, rfl, rfl, h0, r0⟩ := trodAll_cons hA
  obtain ⟨v1, vs1, d1, ds1, p1, q1, rfl, rfl, rfl, h1, r1⟩ := trodAll_cons r0
  obtain ⟨rfl, rfl, rfl⟩ := trodAll_nil r1
  obtain rfl : args = #[v0, v1] := by cases args; simp_all
  obtain ⟨rfl, rfl⟩ := trodVars_none hV
  obtain ⟨g0, rfl, rfl, rfl, w0⟩ := open_int Tryd.underlying42 (hval 0 42 v0 rfl rfl) h0
  obtain ⟨g0, rfl, hu0⟩ : ∃ n : Nat, g0 = (n : Int) ∧ n < 18446744073709551616 := by have hz := w0; have q1 : IntKind.u64.min = 0 := rfl; have q2 : IntKind.u64.max = 18446744073709551615 := rfl; simp [Lit.wf] at hz; exact ⟨g0.toNat, by omega, by omega⟩
  obtain ⟨g1, rfl, rfl, rfl, w1⟩ := open_int Tryd.underlying3 (hval 1 3 v1 rfl rfl) h1
  clear hA0
  simp only [List.append_nil] at hW'
  have hwalk := walk g0 hu0 g1 W hE
  refine hwalk.mono fun e W' ⟨he, hg⟩ => ?_
  subst he
  exact ⟨_, rfl, _, _, _, [], _, [], hW', trodAll_mk1 (shut_bool Tryd.underlying4 _), (trodAll_cons_mk (shut_int Tryd.underlying42 w0) (trodAll_cons_mk (shut_int Tryd.underlying3 w1) trodAll_mk0)), rfl, hg.frame _, fun h => by cases h⟩
theorem reads (os : Os) {H : Type} (enc : TypeId × Value → H) : ∃ places, DataW.whole enc Tryd.prog ((laidW os).forCall (fun _ _ => 0) ⟨#[], #[.int .u64 0, .int .i64 0], []⟩).memory Tryd.f9.params.toList Rows.booleanPrimesSpec.vars false #[(.int .u64 0 : Value), (.int .i64 0 : Value)].toList 8 = some ([.lit (.int .u64 0), .lit (.int .i64 0)], [], places) :=
  ⟨[], by kernel_rfl⟩
set_option maxRecDepth 100000 in
theorem lifted (os : Os) (started : os.Started) (H : Type) (enc : TypeId × Value → H) (F : Stop.Interp) :
    ReturnsInHanded {} Tryd.checked os 9 .any ((OpenSpec.ofChange Rows.booleanPrimesSpec).preRow enc Tryd.prog Tryd.f9 Rows.booleanPrimesRow.domain false Rows.booleanPrimesRow.laid) (((OpenSpec.ofChange Rows.booleanPrimesSpec).at F).post enc Tryd.prog Tryd.f9 false true false false) := by
  obtain ⟨places, hx⟩ := reads os enc
  refine returnsInHanded_of_row (C := Tryd.checked) (s := OpenSpec.ofChange Rows.booleanPrimesSpec) own started (by kernel_rfl) Tryd.func9
    (witness_row_atRef (enc := enc) (C := Tryd.checked) false (laidW os) #[.int .u64 0, .int .i64 0] (laidW_os os) (vars_ok os _) (heap_ok os _) (by kernel_rfl)
      (OpenSpec.preRow_of_cond 8 hx (by kernel_rfl) (fun k hk => by cases hk) (by kernel_rfl) (laid_met os _))) ?_
  intro W base args ds gs before hval hW _ _ _ hL hsh _
  exact contract H enc W base args ds gs before hval hW (env_of hL)
theorem said : Rows.BooleanPrimesSaid :=
  OpenClaim.holds_of_cond 9 Tryd.f9 rfl rfl rfl rfl rfl rfl rfl ⟨rfl, rfl, rfl, rfl, rfl⟩ rfl rfl rfl rfl rfl (by kernel_rfl) Tryd.func9 (by kernel_rfl)
    (of_decide_eq_true (by kernel_rfl)) (by unfold Func.isWrapper; first | (rw [if_pos (by decide +kernel)]; kernel_rfl) | (rw [if_neg (by decide +kernel)]; exact ⟨rfl, rfl⟩))
    (fun os started H enc _ F => by rw [OpenClaim.pre_eq_preRow]; exact lifted os started H enc F)
theorem plain (f : FuncId) (fn : Func) (hf : Tryd.pinned.checked.prog.funcNamed "witting/wittinglaw09.BooleanPrimes" = some f) (hfn : Tryd.pinned.checked.prog.funcs[f]? = some fn) :
    false = Tryd.pinned.checked.prog.looks [] ∧ ∀ (j : Nat) t, fn.params[j]? = some t → Tryd.pinned.checked.prog.wantsStandIn t = false := by
  obtain rfl : f = 9 := Option.some.inj ((show Tryd.prog.funcNamed "witting/wittinglaw09.BooleanPrimes" = some 9 by kernel_rfl).symm.trans hf) |>.symm
  obtain rfl : fn = Tryd.f9 := (Option.some.inj (Tryd.func9.symm.trans hfn)).symm
  refine ⟨no_looks, fun j t ht => ?_⟩
  rw [Tryd.params9] at ht
  have hm : t ∈ [42, 3] := by simpa using Array.mem_of_getElem? ht
  have hall : ([42, 3].all fun u => !Tryd.prog.wantsStandIn u) = true := by kernel_rfl
  exact (show Tryd.prog.wantsStandIn t = false by simpa using List.all_eq_true.1 hall t hm)
theorem card : Rows.BooleanPrimesCardSaid :=
  Claim7.holds_tied_plain_at .later [] _ _ _ _ said (fun _ h => by cases h) (by kernel_rfl) (fun _ h => by cases h) booleanPrimes_row_tie rfl ⟨rfl, rfl⟩ (by kernel_rfl) rfl plain (by kernel_rfl)
#print axioms card
end Go.Proofs.YtkkkomkljpolbaaDoor.booleanPrimes
