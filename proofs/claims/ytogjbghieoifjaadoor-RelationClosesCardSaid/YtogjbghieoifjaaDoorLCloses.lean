/- RelationCloses (P2.3): the closures are the relations of the reference, or the error of the relation, for every list of words. Condition: the listed package variables hold what the program's text lays in them. -/
import Derived.Test.YtogjbghieoifjaaDoorLb
namespace Go.Proofs.YtogjbghieoifjaaDoor.relationCloses
open Go.ChangeShapes Go.WideShapes Go.ChangeAt Go.RowKit Go.Proofs.YtogjbghieoifjaaDoor Go.Proofs.Ws
set_option maxRecDepth 100000 in
theorem walk_big (A : Option Addr) (m c : Nat) (w : World) (hm80 : 80 < m) (hT : Tab w) :
    Calls Tryd.prog 5 #[.slice A m c] w fun e w' => e = .returned (.bool true) ∧ Below w.heap.size w w' := by
  have HB : Hid (Below w.heap.size w w) := Lib.hid (Below.refl _ w)
  have HT := Lib.hid hT
  clear hT
  go_enter Tryd.func5, Tryd.ntmps5
  have HX := Lib.hid (awake_any w HT.out)
  go_wp2_with fail
  refine (HX.out).mono ?_
  rintro e w1 ⟨rfl, hb⟩
  clear HX
  replace HB := Lib.hid (HB.out.trans (hb.mono HB.out.size))
  replace HT := Lib.hid (HT.out.below hb)
  clear hb
  go_wp2
  go_ret
  exact ⟨rfl, HB.out⟩
set_option maxRecDepth 100000 in
set_option maxHeartbeats 3200000 in
theorem walk_small (l : List Nat) (A : Option Addr) (m c : Nat) (w : World) (hR : Reads w w.heap.size 1 A m (us l)) (hw : Words l) (hm80 : m ≤ 80) (hN : A = none → c = 0) (hT : Tab w) :
    Calls Tryd.prog 5 #[.slice A m c] w fun e w' => e = .returned (.bool true) ∧ Below w.heap.size w w' := by
  have HR := Lib.hid hR
  have HW := Lib.hid hw
  have hxx : (relErr l.length l != relErr l.length l) = false := by simp
  have hyy : (relErr l.length l == relErr l.length l) = true := by simp
  clear hR hw
  have HB : Hid (Below w.heap.size w w) := Lib.hid (Below.refl _ w)
  have HT := Lib.hid hT
  clear hT
  go_enter Tryd.func5, Tryd.ntmps5
  have HX := Lib.hid (law_reflexive l A m c w HR.out HW.out (by unfold maxLen; omega) HT.out)
  go_wp2_with fail
  refine (HX.out).mono ?_
  rintro e w1 ⟨L1, hL1, A1, m1, c1, rfl, hr1, hb, h641⟩
  clear HX
  replace HR := Lib.hid (HR.out.step hb)
  replace HB := Lib.hid (HB.out.trans (hb.mono HB.out.size))
  replace HT := Lib.hid (HT.out.below hb)
  have H1 := Lib.hid hr1
  clear hr1
  have HL1 := Lib.hid hL1
  clear hL1
  clear hb
  have HX := Lib.hid (x_refReflexive l A m c w1 HR.out HW.out (by unfold maxLen; omega) hN)
  go_wp2_with fail
  refine (HX.out).mono ?_
  rintro e w2 ⟨L2, hL2, A2, m2, c2, rfl, hr2, hb, h642⟩
  clear HX
  replace HR := Lib.hid (HR.out.step hb)
  replace H1 := Lib.hid (H1.out.step hb)
  replace HB := Lib.hid (HB.out.trans (hb.mono HB.out.size))
  replace HT := Lib.hid (HT.out.below hb)
  have H2 := Lib.hid hr2
  clear hr2
  clear hb
  obtain rfl : L1 = L2 := HL1.out.unique hL2
  clear hL2 HL1
  have HX := Lib.hid (same_self _ A1 A2 m1 m2 c1 c2 w2 H1.out H2.out h641 h642)
  go_wp2_with fail
  refine (HX.out).mono ?_
  rintro e w3 ⟨rfl, hb⟩
  clear HX
  replace HR := Lib.hid (HR.out.step hb)
  replace H1 := Lib.hid (H1.out.step hb)
  replace H2 := Lib.hid (H2.out.step hb)
  replace HB := Lib.hid (HB.out.trans (hb.mono HB.out.size))
  replace HT := Lib.hid (HT.out.below hb)
  clear hb
  clear H1
  clear H2
  have HX := Lib.hid (law_symmetric l A m c w3 HR.out HW.out (by unfold maxLen; omega) HT.out)
  go_wp2_with fail
  refine (HX.out).mono ?_
  rintro e w4 ⟨L3, hL3, A3, m3, c3, rfl, hr3, hb, h643⟩
  clear HX
  replace HR := Lib.hid (HR.out.step hb)
  replace HB := Lib.hid (HB.out.trans (hb.mono HB.out.size))
  replace HT := Lib.hid (HT.out.below hb)
  have H3 := Lib.hid hr3
  clear hr3
  have HL3 := Lib.hid hL3
  clear hL3
  clear hb
  have HX := Lib.hid (x_refSymmetric l A m c w4 HR.out HW.out (by unfold maxLen; omega))
  go_wp2_with fail
  refine (HX.out).mono ?_
  rintro e w5 ⟨L4, hL4, A4, m4, c4, rfl, hr4, hb, h644⟩
  clear HX
  replace HR := Lib.hid (HR.out.step hb)
  replace H3 := Lib.hid (H3.out.step hb)
  replace HB := Lib.hid (HB.out.trans (hb.mono HB.out.size))
  replace HT := Lib.hid (HT.out.below hb)
  have H4 := Lib.hid hr4
  clear hr4
  clear hb
  obtain rfl : L3 = L4 := HL3.out.unique hL4
  clear hL4 HL3
  have HX := Lib.hid (same_self _ A3 A4 m3 m4 c3 c4 w5 H3.out H4.out h643 h644)
  go_wp2_with fail
  refine (HX.out).mono ?_
  rintro e w6 ⟨rfl, hb⟩
  clear HX
  replace HR := Lib.hid (HR.out.step hb)
  replace H3 := Lib.hid (H3.out.step hb)
  replace H4 := Lib.hid (H4.out.step hb)
  replace HB := Lib.hid (HB.out.trans (hb.mono HB.out.size))
  replace HT := Lib.hid (HT.out.below hb)
  clear hb
  clear H3
  clear H4
  have HX := Lib.hid (law_transitive l A m c w6 HR.out HW.out (by unfold maxLen; omega) HT.out)
  go_wp2_with fail
  refine (HX.out).mono ?_
  rintro e w7 ⟨L5, hL5, A5, m5, c5, rfl, hr5, hb, h645⟩
  clear HX
  replace HR := Lib.hid (HR.out.step hb)
  replace HB := Lib.hid (HB.out.trans (hb.mono HB.out.size))
  replace HT := Lib.hid (HT.out.below hb)
  have H5 := Lib.hid hr5
  clear hr5
  have HL5 := Lib.hid hL5
  clear hL5
  clear hb
  have HX := Lib.hid (x_refTransitive l A m c w7 HR.out HW.out (by unfold maxLen; omega) hN)
  go_wp2_with fail
  refine (HX.out).mono ?_
  rintro e w8 ⟨L6, hL6, A6, m6, c6, rfl, hr6, hb, h646⟩
  clear HX
  replace HR := Lib.hid (HR.out.step hb)
  replace H5 := Lib.hid (H5.out.step hb)
  replace HB := Lib.hid (HB.out.trans (hb.mono HB.out.size))
  replace HT := Lib.hid (HT.out.below hb)
  have H6 := Lib.hid hr6
  clear hr6
  clear hb
  obtain rfl : L5 = L6 := HL5.out.unique hL6
  clear hL6 HL5
  have HX := Lib.hid (same_self _ A5 A6 m5 m6 c5 c6 w8 H5.out H6.out h645 h646)
  go_wp2_with fail
  refine (HX.out).mono ?_
  rintro e w9 ⟨rfl, hb⟩
  clear HX
  replace HR := Lib.hid (HR.out.step hb)
  replace H5 := Lib.hid (H5.out.step hb)
  replace H6 := Lib.hid (H6.out.step hb)
  replace HB := Lib.hid (HB.out.trans (hb.mono HB.out.size))
  replace HT := Lib.hid (HT.out.below hb)
  clear hb
  clear H5
  clear H6
  have HX := Lib.hid (law_euclidean l A m c w9 HR.out HW.out (by unfold maxLen; omega) HT.out)
  go_wp2_with fail
  refine (HX.out).mono ?_
  rintro e w10 ⟨L7, hL7, A7, m7, c7, rfl, hr7, hb, h647⟩
  clear HX
  replace HR := Lib.hid (HR.out.step hb)
  replace HB := Lib.hid (HB.out.trans (hb.mono HB.out.size))
  replace HT := Lib.hid (HT.out.below hb)
  have H7 := Lib.hid hr7
  clear hr7
  have HL7 := Lib.hid hL7
  clear hL7
  clear hb
  have HX := Lib.hid (x_refEuclidean l A m c w10 HR.out HW.out (by unfold maxLen; omega) hN)
  go_wp2_with fail
  refine (HX.out).mono ?_
  rintro e w11 ⟨L8, hL8, A8, m8, c8, rfl, hr8, hb, h648⟩
  clear HX
  replace HR := Lib.hid (HR.out.step hb)
  replace H7 := Lib.hid (H7.out.step hb)
  replace HB := Lib.hid (HB.out.trans (hb.mono HB.out.size))
  replace HT := Lib.hid (HT.out.below hb)
  have H8 := Lib.hid hr8
  clear hr8
  clear hb
  obtain rfl : L7 = L8 := HL7.out.unique hL8
  clear hL8 HL7
  have HX := Lib.hid (same_self _ A7 A8 m7 m8 c7 c8 w11 H7.out H8.out h647 h648)
  go_wp2_with fail
  refine (HX.out).mono ?_
  rintro e w12 ⟨rfl, hb⟩
  clear HX
  replace HR := Lib.hid (HR.out.step hb)
  replace H7 := Lib.hid (H7.out.step hb)
  replace H8 := Lib.hid (H8.out.step hb)
  replace HB := Lib.hid (HB.out.trans (hb.mono HB.out.size))
  replace HT := Lib.hid (HT.out.below hb)
  clear hb
  clear H7
  clear H8
  have HX := Lib.hid (awake_any w12 HT.out)
  go_wp2_with fail
  refine (HX.out).mono ?_
  rintro e w13 ⟨rfl, hb⟩
  clear HX
  replace HR := Lib.hid (HR.out.step hb)
  replace HB := Lib.hid (HB.out.trans (hb.mono HB.out.size))
  replace HT := Lib.hid (HT.out.below hb)
  clear hb
  go_wp2
  go_ret
  exact ⟨rfl, HB.out⟩
set_option maxRecDepth 100000 in
theorem contract (H : Type) (enc : TypeId × Value → H) (W : World) (base : Nat) (args : Array Value) (ds gs : List (DataW H)) (before : List MemPlace)
    (hval : ∀ (j : Nat) t v, Tryd.f5.params[j]? = some t → args[j]? = some v → Value.okWide Tryd.prog W .any base t v)
    (hW : DataW.Whole enc Tryd.prog Tryd.f5.params.toList Rows.relationClosesSpec.vars false W args.toList ds gs before) (hE : Tab W) :
    Calls Tryd.prog 5 args W fun e W' => ∃ v, e = .returned v ∧ Rows.relationClosesSpec.post enc Tryd.prog Tryd.f5 false true false false W args v W' := by
  have hW' := hW
  obtain ⟨p, q, hA0, hV, rfl, hfz, hnd⟩ := hW
  have hA : DataW.TrodAll enc Tryd.prog W 0 (fun _ => true) true Tryd.f5.params.toList args.toList ds p := hA0
  rw [Tryd.params5] at hA hval
  obtain ⟨v0, vs0, d0, ds0, p0, q0, hargs, rfl, rfl, h0, r0⟩ := trodAll_cons hA
  obtain ⟨rfl, rfl, rfl⟩ := trodAll_nil r0
  obtain rfl : args = #[v0] := by cases args; simp_all
  obtain ⟨rfl, rfl⟩ := trodVars_none hV
  obtain ⟨A0, n0, c0, rfl⟩ := okWide_slice Tryd.underlying22 (hval 0 22 v0 rfl rfl)
  have k0 := h0
  have lt0 : ∀ x ∈ p0, x.block < W.heap.size := by obtain ⟨m, hm⟩ := k0; exact DataW.trod_lt m _ _ _ hm
  obtain ⟨z0, w0⟩ : ∃ zs, IsRow .u64 W A0 n0 c0 zs := by
    obtain ⟨fuel, hf⟩ := h0
    rcases open_ints Tryd.underlying22 Tryd.underlying34 (by kernel_rfl) hf with ⟨hcs, _⟩ | ⟨x, l, c, zs, hcs, _, hl, hm, hz, _, hcell, hwz⟩
    · simp [Value.cells] at hcs
      obtain ⟨rfl, rfl, rfl⟩ := hcs
      exact ⟨[], .inl ⟨rfl, rfl, rfl, rfl⟩⟩
    · simp [Value.cells] at hcs
      obtain ⟨rfl, rfl, rfl⟩ := hcs
      exact ⟨zs, .inr ⟨_, rfl, hl, hm, by simpa using hz, hcell, hwz⟩⟩
  clear hA0
  obtain ⟨l0, hR0, hw0, hm0, hN0⟩ := w0.words
  have hwalk : Calls Tryd.prog 5 #[.slice A0 n0 c0] W fun e w' => e = .returned (.bool true) ∧ Below W.heap.size W w' := by
    by_cases h80 : n0 ≤ 80
    · exact walk_small l0 A0 n0 c0 W hR0 hw0 h80 hN0 hE
    · exact walk_big A0 n0 c0 W (by omega) hE
  refine hwalk.mono fun e W' ⟨he, hg⟩ => ?_
  subst he
  exact ⟨_, rfl, _, _, _, [], _, [], hW', trodAll_mk1 (shut_bool Tryd.underlying4 _), (trodAll_cons_mk (Below.trod laidOut (by kernel_rfl) (of_decide_eq_true (by kernel_rfl)) k0 hg lt0) trodAll_mk0), rfl, hg.frame _, fun h => by cases h⟩
theorem reads (os : Os) {H : Type} (enc : TypeId × Value → H) : ∃ places, DataW.whole enc Tryd.prog ((laidW os).forCall (fun _ _ => 0) ⟨#[], #[.slice none 0 0], []⟩).memory Tryd.f5.params.toList Rows.relationClosesSpec.vars false #[Value.slice none 0 0].toList 8 = some ([.nil], [], places) :=
  ⟨[], by kernel_rfl⟩
set_option maxRecDepth 100000 in
theorem lifted (os : Os) (started : os.Started) (H : Type) (enc : TypeId × Value → H) (F : Stop.Interp) :
    ReturnsInHanded {} Tryd.checked os 5 .any ((OpenSpec.ofChange Rows.relationClosesSpec).preRow enc Tryd.prog Tryd.f5 Rows.relationClosesRow.domain false Rows.relationClosesRow.laid) (((OpenSpec.ofChange Rows.relationClosesSpec).at F).post enc Tryd.prog Tryd.f5 false true false false) := by
  obtain ⟨places, hx⟩ := reads os enc
  refine returnsInHanded_of_row (C := Tryd.checked) (s := OpenSpec.ofChange Rows.relationClosesSpec) own started (by kernel_rfl) Tryd.func5
    (witness_row_at (enc := enc) (C := Tryd.checked) false (laidW os) #[.slice none 0 0] (laidW_os os) (vars_ok os _) (heap_ok os _) (by kernel_rfl)
      (OpenSpec.preRow_of_cond 8 hx (by kernel_rfl) (fun k hk => by cases hk) (by kernel_rfl) (laid_met os _))) ?_
  intro W base args ds gs before hval hW _ _ _ hL hsh _
  exact contract H enc W base args ds gs before hval hW (env_of hL)
theorem said : Rows.RelationClosesSaid :=
  OpenClaim.holds_of_cond 5 Tryd.f5 rfl rfl rfl rfl rfl rfl rfl ⟨rfl, rfl, rfl, rfl, rfl⟩ rfl rfl rfl rfl rfl (by kernel_rfl) Tryd.func5 (by kernel_rfl)
    (of_decide_eq_true (by kernel_rfl)) (by unfold Func.isWrapper; first | (rw [if_pos (by decide +kernel)]; kernel_rfl) | (rw [if_neg (by decide +kernel)]; exact ⟨rfl, rfl⟩))
    (fun os started H enc _ F => by rw [OpenClaim.pre_eq_preRow]; exact lifted os started H enc F)
theorem plain (f : FuncId) (fn : Func) (hf : Tryd.pinned.checked.prog.funcNamed "witting/wittinglaw02.RelationCloses" = some f) (hfn : Tryd.pinned.checked.prog.funcs[f]? = some fn) :
    false = Tryd.pinned.checked.prog.looks [] ∧ ∀ (j : Nat) t, fn.params[j]? = some t → Tryd.pinned.checked.prog.wantsStandIn t = false := by
  obtain rfl : f = 5 := Option.some.inj ((show Tryd.prog.funcNamed "witting/wittinglaw02.RelationCloses" = some 5 by kernel_rfl).symm.trans hf) |>.symm
  obtain rfl : fn = Tryd.f5 := (Option.some.inj (Tryd.func5.symm.trans hfn)).symm
  refine ⟨no_looks, fun j t ht => ?_⟩
  rw [Tryd.params5] at ht
  have hm : t ∈ [22] := by simpa using Array.mem_of_getElem? ht
  have hall : ([22].all fun u => !Tryd.prog.wantsStandIn u) = true := by kernel_rfl
  exact (show Tryd.prog.wantsStandIn t = false by simpa using List.all_eq_true.1 hall t hm)
theorem card : Rows.RelationClosesCardSaid :=
  Claim7.holds_tied_plain_at .later [] _ _ _ _ said (fun _ h => by cases h) (by kernel_rfl) (fun _ h => by cases h) relationCloses_row_tie rfl ⟨rfl, rfl⟩ (by kernel_rfl) rfl plain (by kernel_rfl)
#print axioms card
end Go.Proofs.YtogjbghieoifjaaDoor.relationCloses
