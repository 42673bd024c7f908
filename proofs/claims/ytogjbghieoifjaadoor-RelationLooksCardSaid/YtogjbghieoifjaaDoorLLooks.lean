/- RelationLooks (P2.4): Box, Diamond and Reach return the sets that the reference returns, for every list of words and every set. Condition: the listed package variables hold what the program's text lays in them. -/
import Derived.Test.YtogjbghieoifjaaDoorLa
namespace Go.Proofs.YtogjbghieoifjaaDoor.relationLooks
open Go.ChangeShapes Go.WideShapes Go.ChangeAt Go.RowKit Go.Proofs.YtogjbghieoifjaaDoor Go.Proofs.Ws
set_option maxRecDepth 100000 in
theorem walk_big (A : Option Addr) (m c s : Nat) (w : World) (hm80 : 80 < m) (_hm : m ≤ maxLen) (hT : Tab w) :
    Calls Tryd.prog 6 #[.slice A m c, .int .u64 s] w fun e w' => e = .returned (.bool true) ∧ Below w.heap.size w w' := by
  have HB : Hid (Below w.heap.size w w) := Lib.hid (Below.refl _ w)
  have HT := Lib.hid hT
  clear hT
  go_enter Tryd.func6, Tryd.ntmps6
  have HX := Lib.hid (awake_any w HT.out)
  go_wp2_with fail
  refine (HX.out).mono ?_
  rintro e w1 ⟨rfl, hb⟩
  clear HX
  replace HB := Lib.hid (HB.out.trans (hb.mono HB.out.size))
  replace HT := Lib.hid (HT.out.below hb)
  clear hb
  go_wp2
  go_ret
  exact ⟨rfl, HB.out⟩
set_option maxRecDepth 100000 in
set_option maxHeartbeats 3200000 in
theorem walk_small (l : List Nat) (A : Option Addr) (m c s : Nat) (w : World) (hR : Reads w w.heap.size 1 A m (us l)) (hw : Words l) (hm80 : m ≤ 80) (hs : s < 18446744073709551616) (hT : Tab w) :
    Calls Tryd.prog 6 #[.slice A m c, .int .u64 s] w fun e w' => e = .returned (.bool true) ∧ Below w.heap.size w w' := by
  have HR := Lib.hid hR
  have HW := Lib.hid hw
  have HS := Lib.hid hs
  clear hR hw hs
  have HB : Hid (Below w.heap.size w w) := Lib.hid (Below.refl _ w)
  have HT := Lib.hid hT
  clear hT
  go_enter Tryd.func6, Tryd.ntmps6
  have HX := Lib.hid (box_any l s A m c w HR.out HW.out (by unfold maxLen; omega) HS.out)
  go_wp2_with fail
  refine (HX.out).mono ?_
  rintro e w1 ⟨rfl, hb⟩
  clear HX
  replace HR := Lib.hid (HR.out.step hb)
  replace HB := Lib.hid (HB.out.trans (hb.mono HB.out.size))
  replace HT := Lib.hid (HT.out.below hb)
  clear hb
  have HX := Lib.hid (toB_drew (ref_box l s A m c w1 HR.out HW.out (by unfold maxLen; omega) HS.out))
  go_wp2_with fail
  refine (HX.out).mono ?_
  rintro e w2 ⟨rfl, hb⟩
  clear HX
  replace HR := Lib.hid (HR.out.step hb)
  replace HB := Lib.hid (HB.out.trans (hb.mono HB.out.size))
  replace HT := Lib.hid (HT.out.below hb)
  clear hb
  have HX := Lib.hid (dia_any l s A m c w2 HR.out HW.out (by unfold maxLen; omega) HS.out)
  go_wp2_with fail
  refine (HX.out).mono ?_
  rintro e w3 ⟨rfl, hb⟩
  clear HX
  replace HR := Lib.hid (HR.out.step hb)
  replace HB := Lib.hid (HB.out.trans (hb.mono HB.out.size))
  replace HT := Lib.hid (HT.out.below hb)
  clear hb
  have HX := Lib.hid (toB_drew (ref_dia l s A m c w3 HR.out HW.out (by unfold maxLen; omega) HS.out))
  go_wp2_with fail
  refine (HX.out).mono ?_
  rintro e w4 ⟨rfl, hb⟩
  clear HX
  replace HR := Lib.hid (HR.out.step hb)
  replace HB := Lib.hid (HB.out.trans (hb.mono HB.out.size))
  replace HT := Lib.hid (HT.out.below hb)
  clear hb
  have HX := Lib.hid (reach_any l s A m c w4 HR.out HW.out (by unfold maxLen; omega) HS.out HT.out)
  go_wp2_with fail
  refine (HX.out).mono ?_
  rintro e w5 ⟨rfl, hb⟩
  clear HX
  replace HR := Lib.hid (HR.out.step hb)
  replace HB := Lib.hid (HB.out.trans (hb.mono HB.out.size))
  replace HT := Lib.hid (HT.out.below hb)
  clear hb
  have HX := Lib.hid (toB_drew (refReach_any l s A m c w5 HR.out HW.out (by unfold maxLen; omega) HS.out))
  go_wp2_with fail
  refine (HX.out).mono ?_
  rintro e w6 ⟨rfl, hb⟩
  clear HX
  replace HR := Lib.hid (HR.out.step hb)
  replace HB := Lib.hid (HB.out.trans (hb.mono HB.out.size))
  replace HT := Lib.hid (HT.out.below hb)
  clear hb
  have HX := Lib.hid (awake_any w6 HT.out)
  go_wp2_with fail
  refine (HX.out).mono ?_
  rintro e w7 ⟨rfl, hb⟩
  clear HX
  replace HR := Lib.hid (HR.out.step hb)
  replace HB := Lib.hid (HB.out.trans (hb.mono HB.out.size))
  replace HT := Lib.hid (HT.out.below hb)
  clear hb
  go_wp2
  go_ret
  exact ⟨rfl, HB.out⟩
set_option maxRecDepth 100000 in
theorem contract (H : Type) (enc : TypeId × Value → H) (W : World) (base : Nat) (args : Array Value) (ds gs : List (DataW H)) (before : List MemPlace)
    (hval : ∀ (j : Nat) t v, Tryd.f6.params[j]? = some t → args[j]? = some v → Value.okWide Tryd.prog W .any base t v)
    (hW : DataW.Whole enc Tryd.prog Tryd.f6.params.toList Rows.relationLooksSpec.vars false W args.toList ds gs before) (hE : Tab W) :
    Calls Tryd.prog 6 args W fun e W' => ∃ v, e = .returned v ∧ Rows.relationLooksSpec.post enc Tryd.prog Tryd.f6 false true false false W args v W' := by
  have hW' := hW
  obtain ⟨p, q, hA0, hV, rfl, hfz, hnd⟩ := hW
  have hA : DataW.TrodAll enc Tryd.prog W 0 (fun _ => true) true Tryd.f6.params.toList args.toList ds p := hA0
  rw [Tryd.params6] at hA hval
  obtain ⟨v0, vs0, d0, ds0, p0, q0, hargs, rfl, rfl, h0, r0⟩ := trodAll_cons hA
  obtain ⟨v1, vs1, d1, ds1, p1, q1, rfl, rfl, rfl, h1, r1⟩ := trodAll_cons r0
  obtain ⟨rfl, rfl, rfl⟩ := trodAll_nil r1
  obtain rfl : args = #[v0, v1] := by cases args; simp_all
  obtain ⟨rfl, rfl⟩ := trodVars_none hV
  obtain ⟨A0, n0, c0, rfl⟩ := okWide_slice Tryd.underlying22 (hval 0 22 v0 rfl rfl)
  have k0 := h0
  have lt0 : ∀ x ∈ p0, x.block < W.heap.size := by obtain ⟨m, hm⟩ := k0; exact DataW.trod_lt m _ _ _ hm
  obtain ⟨z0, w0⟩ : ∃ zs, IsRow .u64 W A0 n0 c0 zs := by
    obtain ⟨fuel, hf⟩ := h0
    rcases open_ints Tryd.underlying22 Tryd.underlying34 (by kernel_rfl) hf with ⟨hcs, _⟩ | ⟨x, l, c, zs, hcs, _, hl, hm, hz, _, hcell, hwz⟩
    · simp [Value.cells] at hcs
      obtain ⟨rfl, rfl, rfl⟩ := hcs
      exact ⟨[], .inl ⟨rfl, rfl, rfl, rfl⟩⟩
    · simp [Value.cells] at hcs
      obtain ⟨rfl, rfl, rfl⟩ := hcs
      exact ⟨zs, .inr ⟨_, rfl, hl, hm, by simpa using hz, hcell, hwz⟩⟩
  obtain ⟨a1, rfl, rfl, rfl, w1⟩ := open_int Tryd.underlying34 (hval 1 34 v1 rfl rfl) h1
  clear hA0
  obtain ⟨l0, hR0, hw0, hm0, hN0⟩ := w0.words
  have b1 := bounds_u64 w1
  obtain ⟨s1, rfl⟩ := Int.eq_ofNat_of_zero_le b1.1
  have hwalk : Calls Tryd.prog 6 #[.slice A0 n0 c0, .int .u64 s1] W fun e w' => e = .returned (.bool true) ∧ Below W.heap.size W w' := by
    by_cases h80 : n0 ≤ 80
    · exact walk_small l0 A0 n0 c0 s1 W hR0 hw0 h80 (by omega) hE
    · exact walk_big A0 n0 c0 s1 W (by omega) hm0 hE
  refine hwalk.mono fun e W' ⟨he, hg⟩ => ?_
  subst he
  exact ⟨_, rfl, _, _, _, [], _, [], hW', trodAll_mk1 (shut_bool Tryd.underlying4 _), (trodAll_cons_mk (Below.trod laidOut (by kernel_rfl) (of_decide_eq_true (by kernel_rfl)) k0 hg lt0) (trodAll_cons_mk (shut_int Tryd.underlying34 w1) trodAll_mk0)), rfl, hg.frame _, fun h => by cases h⟩
theorem reads (os : Os) {H : Type} (enc : TypeId × Value → H) : ∃ places, DataW.whole enc Tryd.prog ((laidW os).forCall (fun _ _ => 0) ⟨#[], #[.slice none 0 0, .int .u64 0], []⟩).memory Tryd.f6.params.toList Rows.relationLooksSpec.vars false #[Value.slice none 0 0, Value.int .u64 0].toList 8 = some ([.nil, .lit (.int .u64 0)], [], places) :=
  ⟨[], by kernel_rfl⟩
set_option maxRecDepth 100000 in
theorem lifted (os : Os) (started : os.Started) (H : Type) (enc : TypeId × Value → H) (F : Stop.Interp) :
    ReturnsInHanded {} Tryd.checked os 6 .any ((OpenSpec.ofChange Rows.relationLooksSpec).preRow enc Tryd.prog Tryd.f6 Rows.relationLooksRow.domain false Rows.relationLooksRow.laid) (((OpenSpec.ofChange Rows.relationLooksSpec).at F).post enc Tryd.prog Tryd.f6 false true false false) := by
  obtain ⟨places, hx⟩ := reads os enc
  refine returnsInHanded_of_row (C := Tryd.checked) (s := OpenSpec.ofChange Rows.relationLooksSpec) own started (by kernel_rfl) Tryd.func6
    (witness_row_at (enc := enc) (C := Tryd.checked) false (laidW os) #[.slice none 0 0, .int .u64 0] (laidW_os os) (vars_ok os _) (heap_ok os _) (by kernel_rfl)
      (OpenSpec.preRow_of_cond 8 hx (by kernel_rfl) (fun k hk => by cases hk) (by kernel_rfl) (laid_met os _))) ?_
  intro W base args ds gs before hval hW _ _ _ hL hsh _
  exact contract H enc W base args ds gs before hval hW (env_of hL)
theorem said : Rows.RelationLooksSaid :=
  OpenClaim.holds_of_cond 6 Tryd.f6 rfl rfl rfl rfl rfl rfl rfl ⟨rfl, rfl, rfl, rfl, rfl⟩ rfl rfl rfl rfl rfl (by kernel_rfl) Tryd.func6 (by kernel_rfl)
    (of_decide_eq_true (by kernel_rfl)) (by unfold Func.isWrapper; first | (rw [if_pos (by decide +kernel)]; kernel_rfl) | (rw [if_neg (by decide +kernel)]; exact ⟨rfl, rfl⟩))
    (fun os started H enc _ F => by rw [OpenClaim.pre_eq_preRow]; exact lifted os started H enc F)
theorem plain (f : FuncId) (fn : Func) (hf : Tryd.pinned.checked.prog.funcNamed "witting/wittinglaw02.RelationLooks" = some f) (hfn : Tryd.pinned.checked.prog.funcs[f]? = some fn) :
    false = Tryd.pinned.checked.prog.looks [] ∧ ∀ (j : Nat) t, fn.params[j]? = some t → Tryd.pinned.checked.prog.wantsStandIn t = false := by
  obtain rfl : f = 6 := Option.some.inj ((show Tryd.prog.funcNamed "witting/wittinglaw02.RelationLooks" = some 6 by kernel_rfl).symm.trans hf) |>.symm
  obtain rfl : fn = Tryd.f6 := (Option.some.inj (Tryd.func6.symm.trans hfn)).symm
  refine ⟨no_looks, fun j t ht => ?_⟩
  rw [Tryd.params6] at ht
  have hm : t ∈ [22, 34] := by simpa using Array.mem_of_getElem? ht
  have hall : ([22, 34].all fun u => !Tryd.prog.wantsStandIn u) = true := by kernel_rfl
  exact (show Tryd.prog.wantsStandIn t = false by simpa using List.all_eq_true.1 hall t hm)
theorem card : Rows.RelationLooksCardSaid :=
  Claim7.holds_tied_plain_at .later [] _ _ _ _ said (fun _ h => by cases h) (by kernel_rfl) (fun _ h => by cases h) relationLooks_row_tie rfl ⟨rfl, rfl⟩ (by kernel_rfl) rfl plain (by kernel_rfl)
#print axioms card
end Go.Proofs.YtogjbghieoifjaaDoor.relationLooks
