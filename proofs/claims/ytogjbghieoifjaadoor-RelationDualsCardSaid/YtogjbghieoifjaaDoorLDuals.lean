/- RelationDuals (P2.4, P2.6): Box and Diamond are dual, and Diamond of the converse is the other side of Box, for every list of words and all sets. Condition: the listed package variables hold what the program's text lays in them. -/
import Derived.Test.YtogjbghieoifjaaDoorLc
namespace Go.Proofs.YtogjbghieoifjaaDoor.relationDuals
open Go.ChangeShapes Go.WideShapes Go.ChangeAt Go.RowKit Go.Proofs.YtogjbghieoifjaaDoor Go.Proofs.Ws
set_option maxRecDepth 100000 in
set_option maxHeartbeats 3200000 in
theorem walk_big1 (A : Option Addr) (m c s t : Nat) (w : World) (hm64 : 64 < m) (hT : Tab w) :
    Calls Tryd.prog 10 #[.slice A m c, .int .u64 s, .int .u64 t] w fun e w' => e = .returned (.bool true) ∧ Below w.heap.size w w' := by
  have HB : Hid (Below w.heap.size w w) := Lib.hid (Below.refl _ w)
  have HT := Lib.hid hT
  clear hT
  go_enter Tryd.func10, Tryd.ntmps10
  have HX := Lib.hid (awake_any w HT.out)
  go_wp2_with fail
  refine (HX.out).mono ?_
  rintro e w1 ⟨rfl, hb⟩
  clear HX
  replace HB := Lib.hid (HB.out.trans (hb.mono HB.out.size))
  replace HT := Lib.hid (HT.out.below hb)
  clear hb
  go_wp2
  go_ret
  exact ⟨rfl, HB.out⟩
set_option maxRecDepth 100000 in
set_option maxHeartbeats 3200000 in
theorem walk_big2 (l : List Nat) (A : Option Addr) (m c s t : Nat) (w : World) (hR : Reads w w.heap.size 1 A m (us l)) (hw : Words l) (hm64 : m ≤ 64) (h0 : relErr m l ≠ 0) (hT : Tab w) :
    Calls Tryd.prog 10 #[.slice A m c, .int .u64 s, .int .u64 t] w fun e w' => e = .returned (.bool true) ∧ Below w.heap.size w w' := by
  have HR := Lib.hid hR
  have HW := Lib.hid hw
  have hne : (relErr m l != 0) = true := by simp [h0]
  clear hR hw h0
  have HB : Hid (Below w.heap.size w w) := Lib.hid (Below.refl _ w)
  have HT := Lib.hid hT
  clear hT
  go_enter Tryd.func10, Tryd.ntmps10
  have HX := Lib.hid (toB_same (check_any (m : Nat) l A m c _ w HR.out HW.out (by unfold maxLen; omega)))
  go_wp2_with fail
  refine (HX.out).mono ?_
  rintro e w1 ⟨rfl, hb⟩
  clear HX
  replace HR := Lib.hid (HR.out.step hb)
  replace HB := Lib.hid (HB.out.trans (hb.mono HB.out.size))
  replace HT := Lib.hid (HT.out.below hb)
  clear hb
  have HX := Lib.hid (awake_any w1 HT.out)
  go_wp2_with fail
  refine (HX.out).mono ?_
  rintro e w2 ⟨rfl, hb⟩
  clear HX
  replace HR := Lib.hid (HR.out.step hb)
  replace HB := Lib.hid (HB.out.trans (hb.mono HB.out.size))
  replace HT := Lib.hid (HT.out.below hb)
  clear hb
  go_wp2
  go_ret
  exact ⟨rfl, HB.out⟩
set_option maxRecDepth 100000 in
set_option maxHeartbeats 3200000 in
theorem walk_small (l : List Nat) (A : Option Addr) (m c s t : Nat) (w : World) (hR : Reads w w.heap.size 1 A m (us l)) (hw : Words l) (hm64 : m ≤ 64) (hs : s < 18446744073709551616) (ht : t < 18446744073709551616) (h0 : relErr m l = 0) (hT : Tab w) :
    Calls Tryd.prog 10 #[.slice A m c, .int .u64 s, .int .u64 t] w fun e w' => e = .returned (.bool true) ∧ Below w.heap.size w w' := by
  have hl := hR.word_len
  have HSH : Hid (Sh m l) := Lib.hid (rel_sh h0 hl)
  have HR := Lib.hid hR
  have HW := Lib.hid hw
  have hal := allV_lt m
  have ha1 : bits .and .u64 (s : Int) (allV m : Int) = ((s &&& allV m : Nat) : Int) := u64_and_nat _ _ hs hal
  have ha2 : bits .and .u64 (t : Int) (allV m : Int) = ((t &&& allV m : Nat) : Int) := u64_and_nat _ _ ht hal
  have hs' : s &&& allV m < 2 ^ m := by rw [allV_nat m hm64]; exact Nat.and_lt_two_pow _ (by have := Nat.two_pow_pos m; omega)
  have ht' : t &&& allV m < 2 ^ m := by rw [allV_nat m hm64]; exact Nat.and_lt_two_pow _ (by have := Nat.two_pow_pos m; omega)
  generalize s &&& allV m = s2 at ha1 hs'
  generalize t &&& allV m = t2 at ha2 ht'
  have hs64 := pow64 hm64 hs'
  have ht64 := pow64 hm64 ht'
  have hcs := conv_sh' (rel_sh h0 hl)
  have HCS := Lib.hid hcs
  have hb1 : bits .andNot .u64 (allV m : Int) (s2 : Int) = ((allV m &&& (18446744073709551615 - s2) : Nat) : Int) := u64_andNot_nat _ _ hal hs64
  have hq : allV m &&& (18446744073709551615 - s2) < 18446744073709551616 := Nat.lt_of_le_of_lt Nat.and_le_left hal
  have hdual := box_dual h0 hl s2 hs64
  have hd64 := pow64 hm64 (dia_lt h0 hl (allV m &&& (18446744073709551615 - s2)))
  have hb2 : bits .andNot .u64 (allV m : Int) (dia l (allV m &&& (18446744073709551615 - s2)) : Int) = (box l s2 : Int) := by rw [u64_andNot_nat _ _ hal hd64, ← hdual]
  have hbx := pow64 hm64 (box_lt h0 hl t2 ht64)
  have hdc := pow64 hm64 (dia_lt (conv_err h0 hl) (by rw [conv_len]; exact hl) s2)
  have hb3 : bits .andNot .u64 (s2 : Int) (box l t2 : Int) = ((s2 &&& (18446744073709551615 - box l t2) : Nat) : Int) := u64_andNot_nat _ _ hs64 hbx
  have hb4 : bits .andNot .u64 (dia (convV l) s2 : Int) (t2 : Int) = ((dia (convV l) s2 &&& (18446744073709551615 - t2) : Nat) : Int) := u64_andNot_nat _ _ hdc ht64
  have hiff := box_conv h0 hl s2 t2 hs' ht64
  obtain ⟨bb, hB1, hB2⟩ : ∃ bb : Bool, (((s2 &&& (18446744073709551615 - box l t2) : Nat) : Int) == 0) = bb ∧ (((dia (convV l) s2 &&& (18446744073709551615 - t2) : Nat) : Int) == 0) = bb := by
    refine ⟨_, rfl, ?_⟩
    rw [Bool.eq_iff_iff, beq_iff_eq, beq_iff_eq]
    omega
  generalize s2 &&& (18446744073709551615 - box l t2) = y1 at hb3 hB1
  generalize dia (convV l) s2 &&& (18446744073709551615 - t2) = y2 at hb4 hB2
  clear hiff hdual hbx hdc hcs hs' ht'
  have HQ := Lib.hid hq
  have H64 := Lib.hid (And.intro hs64 ht64)
  generalize allV m &&& (18446744073709551615 - s2) = q2 at *
  have hz := h0
  have HALL := Lib.hid (fun W => ref2All_any m W hm64)
  clear hR hw hs ht hl hq hs64 ht64 hal hd64
  have HB : Hid (Below w.heap.size w w) := Lib.hid (Below.refl _ w)
  have HT := Lib.hid hT
  clear hT
  go_enter Tryd.func10, Tryd.ntmps10
  have HX := Lib.hid (toB_same (check_any (m : Nat) l A m c _ w HR.out HW.out (by unfold maxLen; omega)))
  go_wp2_with fail
  refine (HX.out).mono ?_
  rintro e w1 ⟨rfl, hb⟩
  clear HX
  replace HR := Lib.hid (HR.out.step hb)
  replace HB := Lib.hid (HB.out.trans (hb.mono HB.out.size))
  replace HT := Lib.hid (HT.out.below hb)
  clear hb
  have HX := Lib.hid (toB_same (HALL.out w1))
  go_wp2_with fail
  refine (HX.out).mono ?_
  rintro e w2 ⟨rfl, hb⟩
  clear HX
  replace HR := Lib.hid (HR.out.step hb)
  replace HB := Lib.hid (HB.out.trans (hb.mono HB.out.size))
  replace HT := Lib.hid (HT.out.below hb)
  clear hb
  have HX := Lib.hid (k_converse l A m c w2 HR.out hm64 HSH.out HT.out)
  go_wp2_with fail
  refine (HX.out).mono ?_
  rintro e w3 ⟨Ac, cc, rfl, hrc, hb⟩
  clear HX
  replace HR := Lib.hid (HR.out.step hb)
  replace HB := Lib.hid (HB.out.trans (hb.mono HB.out.size))
  replace HT := Lib.hid (HT.out.below hb)
  have HC := Lib.hid hrc
  clear hrc
  clear hb
  have HX := Lib.hid (k_box l s2 A m c w3 HR.out hm64 HSH.out H64.out.1)
  go_wp2_with fail
  refine (HX.out).mono ?_
  rintro e w4 ⟨rfl, hb⟩
  clear HX
  replace HR := Lib.hid (HR.out.step hb)
  replace HC := Lib.hid (HC.out.step hb)
  replace HB := Lib.hid (HB.out.trans (hb.mono HB.out.size))
  replace HT := Lib.hid (HT.out.below hb)
  clear hb
  have HX := Lib.hid (k_dia l q2 A m c w4 HR.out hm64 HSH.out HQ.out)
  go_wp2_with fail
  refine (HX.out).mono ?_
  rintro e w5 ⟨rfl, hb⟩
  clear HX
  replace HR := Lib.hid (HR.out.step hb)
  replace HC := Lib.hid (HC.out.step hb)
  replace HB := Lib.hid (HB.out.trans (hb.mono HB.out.size))
  replace HT := Lib.hid (HT.out.below hb)
  clear hb
  have HX := Lib.hid (k_box l t2 A m c w5 HR.out hm64 HSH.out H64.out.2)
  go_wp2_with fail
  refine (HX.out).mono ?_
  rintro e w6 ⟨rfl, hb⟩
  clear HX
  replace HR := Lib.hid (HR.out.step hb)
  replace HC := Lib.hid (HC.out.step hb)
  replace HB := Lib.hid (HB.out.trans (hb.mono HB.out.size))
  replace HT := Lib.hid (HT.out.below hb)
  clear hb
  have HX := Lib.hid (k_dia (convV l) s2 Ac m cc w6 HC.out hm64 HCS.out H64.out.1)
  go_wp2_with fail
  refine (HX.out).mono ?_
  rintro e w7 ⟨rfl, hb⟩
  clear HX
  replace HR := Lib.hid (HR.out.step hb)
  replace HC := Lib.hid (HC.out.step hb)
  replace HB := Lib.hid (HB.out.trans (hb.mono HB.out.size))
  replace HT := Lib.hid (HT.out.below hb)
  clear hb
  have HX := Lib.hid (awake_any w7 HT.out)
  go_wp2_with fail
  refine (HX.out).mono ?_
  rintro e w8 ⟨rfl, hb⟩
  clear HX
  replace HR := Lib.hid (HR.out.step hb)
  replace HC := Lib.hid (HC.out.step hb)
  replace HB := Lib.hid (HB.out.trans (hb.mono HB.out.size))
  replace HT := Lib.hid (HT.out.below hb)
  clear hb
  cases bb <;> (go_wp2; go_ret; exact ⟨rfl, HB.out⟩)
set_option maxRecDepth 100000 in
theorem contract (H : Type) (enc : TypeId × Value → H) (W : World) (base : Nat) (args : Array Value) (ds gs : List (DataW H)) (before : List MemPlace)
    (hval : ∀ (j : Nat) t v, Tryd.f10.params[j]? = some t → args[j]? = some v → Value.okWide Tryd.prog W .any base t v)
    (hW : DataW.Whole enc Tryd.prog Tryd.f10.params.toList Rows.relationDualsSpec.vars false W args.toList ds gs before) (hE : Tab W) :
    Calls Tryd.prog 10 args W fun e W' => ∃ v, e = .returned v ∧ Rows.relationDualsSpec.post enc Tryd.prog Tryd.f10 false true false false W args v W' := by
  have hW' := hW
  obtain ⟨p, q, hA0, hV, rfl, hfz, hnd⟩ := hW
  have hA : DataW.TrodAll enc Tryd.prog W 0 (fun _ => true) true Tryd.f10.params.toList args.toList ds p := hA0
  rw [Tryd.params10] at hA hval
  obtain ⟨v0, vs0, d0, ds0, p0, q0, hargs, rfl, rfl, h0, r0⟩ := trodAll_cons hA
  obtain ⟨v1, vs1, d1, ds1, p1, q1, rfl, rfl, rfl, h1, r1⟩ := trodAll_cons r0
  obtain ⟨v2, vs2, d2, ds2, p2, q2, rfl, rfl, rfl, h2, r2⟩ := trodAll_cons r1
  obtain ⟨rfl, rfl, rfl⟩ := trodAll_nil r2
  obtain rfl : args = #[v0, v1, v2] := by cases args; simp_all
  obtain ⟨rfl, rfl⟩ := trodVars_none hV
  obtain ⟨A0, n0, c0, rfl⟩ := okWide_slice Tryd.underlying22 (hval 0 22 v0 rfl rfl)
  have k0 := h0
  have lt0 : ∀ x ∈ p0, x.block < W.heap.size := by obtain ⟨m, hm⟩ := k0; exact DataW.trod_lt m _ _ _ hm
  obtain ⟨z0, w0⟩ : ∃ zs, IsRow .u64 W A0 n0 c0 zs := by
    obtain ⟨fuel, hf⟩ := h0
    rcases open_ints Tryd.underlying22 Tryd.underlying34 (by kernel_rfl) hf with ⟨hcs, _⟩ | ⟨x, l, c, zs, hcs, _, hl, hm, hz, _, hcell, hwz⟩
    · simp [Value.cells] at hcs
      obtain ⟨rfl, rfl, rfl⟩ := hcs
      exact ⟨[], .inl ⟨rfl, rfl, rfl, rfl⟩⟩
    · simp [Value.cells] at hcs
      obtain ⟨rfl, rfl, rfl⟩ := hcs
      exact ⟨zs, .inr ⟨_, rfl, hl, hm, by simpa using hz, hcell, hwz⟩⟩
  obtain ⟨a1, rfl, rfl, rfl, w1⟩ := open_int Tryd.underlying34 (hval 1 34 v1 rfl rfl) h1
  obtain ⟨a2, rfl, rfl, rfl, w2⟩ := open_int Tryd.underlying34 (hval 2 34 v2 rfl rfl) h2
  clear hA0
  obtain ⟨l0, hR0, hw0, hm0, hN0⟩ := w0.words
  have b1 := bounds_u64 w1
  obtain ⟨s1, rfl⟩ := Int.eq_ofNat_of_zero_le b1.1
  have b2 := bounds_u64 w2
  obtain ⟨s2, rfl⟩ := Int.eq_ofNat_of_zero_le b2.1
  have hwalk : Calls Tryd.prog 10 #[.slice A0 n0 c0, .int .u64 s1, .int .u64 s2] W fun e w' => e = .returned (.bool true) ∧ Below W.heap.size W w' := by
    by_cases h64 : n0 ≤ 64
    · by_cases h0 : relErr n0 l0 = 0
      · exact walk_small l0 A0 n0 c0 s1 s2 W hR0 hw0 h64 (by omega) (by omega) h0 hE
      · exact walk_big2 l0 A0 n0 c0 s1 s2 W hR0 hw0 h64 h0 hE
    · exact walk_big1 A0 n0 c0 s1 s2 W (by omega) hE
  refine hwalk.mono fun e W' ⟨he, hg⟩ => ?_
  subst he
  exact ⟨_, rfl, _, _, _, [], _, [], hW', trodAll_mk1 (shut_bool Tryd.underlying4 _), (trodAll_cons_mk (Below.trod laidOut (by kernel_rfl) (of_decide_eq_true (by kernel_rfl)) k0 hg lt0) (trodAll_cons_mk (shut_int Tryd.underlying34 w1) (trodAll_cons_mk (shut_int Tryd.underlying34 w2) trodAll_mk0))), rfl, hg.frame _, fun h => by cases h⟩
theorem reads (os : Os) {H : Type} (enc : TypeId × Value → H) : ∃ places, DataW.whole enc Tryd.prog ((laidW os).forCall (fun _ _ => 0) ⟨#[], #[.slice none 0 0, .int .u64 0, .int .u64 0], []⟩).memory Tryd.f10.params.toList Rows.relationDualsSpec.vars false #[Value.slice none 0 0, Value.int .u64 0, Value.int .u64 0].toList 8 = some ([.nil, .lit (.int .u64 0), .lit (.int .u64 0)], [], places) :=
  ⟨[], by kernel_rfl⟩
set_option maxRecDepth 100000 in
theorem lifted (os : Os) (started : os.Started) (H : Type) (enc : TypeId × Value → H) (F : Stop.Interp) :
    ReturnsInHanded {} Tryd.checked os 10 .any ((OpenSpec.ofChange Rows.relationDualsSpec).preRow enc Tryd.prog Tryd.f10 Rows.relationDualsRow.domain false Rows.relationDualsRow.laid) (((OpenSpec.ofChange Rows.relationDualsSpec).at F).post enc Tryd.prog Tryd.f10 false true false false) := by
  obtain ⟨places, hx⟩ := reads os enc
  refine returnsInHanded_of_row (C := Tryd.checked) (s := OpenSpec.ofChange Rows.relationDualsSpec) own started (by kernel_rfl) Tryd.func10
    (witness_row_at (enc := enc) (C := Tryd.checked) false (laidW os) #[.slice none 0 0, .int .u64 0, .int .u64 0] (laidW_os os) (vars_ok os _) (heap_ok os _) (by kernel_rfl)
      (OpenSpec.preRow_of_cond 8 hx (by kernel_rfl) (fun k hk => by cases hk) (by kernel_rfl) (laid_met os _))) ?_
  intro W base args ds gs before hval hW _ _ _ hL hsh _
  exact contract H enc W base args ds gs before hval hW (env_of hL)
theorem said : Rows.RelationDualsSaid :=
  OpenClaim.holds_of_cond 10 Tryd.f10 rfl rfl rfl rfl rfl rfl rfl ⟨rfl, rfl, rfl, rfl, rfl⟩ rfl rfl rfl rfl rfl (by kernel_rfl) Tryd.func10 (by kernel_rfl)
    (of_decide_eq_true (by kernel_rfl)) (by unfold Func.isWrapper; first | (rw [if_pos (by decide +kernel)]; kernel_rfl) | (rw [if_neg (by decide +kernel)]; exact ⟨rfl, rfl⟩))
    (fun os started H enc _ F => by rw [OpenClaim.pre_eq_preRow]; exact lifted os started H enc F)
theorem plain (f : FuncId) (fn : Func) (hf : Tryd.pinned.checked.prog.funcNamed "witting/wittinglaw02.RelationDuals" = some f) (hfn : Tryd.pinned.checked.prog.funcs[f]? = some fn) :
    false = Tryd.pinned.checked.prog.looks [] ∧ ∀ (j : Nat) t, fn.params[j]? = some t → Tryd.pinned.checked.prog.wantsStandIn t = false := by
  obtain rfl : f = 10 := Option.some.inj ((show Tryd.prog.funcNamed "witting/wittinglaw02.RelationDuals" = some 10 by kernel_rfl).symm.trans hf) |>.symm
  obtain rfl : fn = Tryd.f10 := (Option.some.inj (Tryd.func10.symm.trans hfn)).symm
  refine ⟨no_looks, fun j t ht => ?_⟩
  rw [Tryd.params10] at ht
  have hm : t ∈ [22, 34, 34] := by simpa using Array.mem_of_getElem? ht
  have hall : ([22, 34, 34].all fun u => !Tryd.prog.wantsStandIn u) = true := by kernel_rfl
  exact (show Tryd.prog.wantsStandIn t = false by simpa using List.all_eq_true.1 hall t hm)
theorem card : Rows.RelationDualsCardSaid :=
  Claim7.holds_tied_plain_at .later [] _ _ _ _ said (fun _ h => by cases h) (by kernel_rfl) (fun _ h => by cases h) relationDuals_row_tie rfl ⟨rfl, rfl⟩ (by kernel_rfl) rfl plain (by kernel_rfl)
#print axioms card
end Go.Proofs.YtogjbghieoifjaaDoor.relationDuals
