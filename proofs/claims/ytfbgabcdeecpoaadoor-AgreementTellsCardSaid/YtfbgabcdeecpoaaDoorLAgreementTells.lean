/- Layer 24: AgreementTells. -/
import Derived.Test.YtfbgabcdeecpoaaDoorNMu
namespace Go.Proofs.YtfbgabcdeecpoaaDoor.agreementTells
open Go.ChangeShapes Go.WideShapes Go.ChangeAt Go.RowKit Go.Proofs.YtfbgabcdeecpoaaDoor Go.Proofs.YtfbgabcdeecpoaaDoor.agr Go.Proofs.Ws
open Go.ChangeMaps (open_string shut_string)
set_option maxRecDepth 100000
set_option maxHeartbeats 8000000 in
theorem walk (P : Pri) (v : Value) (a : Int) (s : Nat) (w : World) (hM : PrR w w.heap.size v P) (hs : s < 18446744073709551616) (hE : EnvW w) :
    Calls Tryd.prog 5 #[v, .int .i64 a, .int .u64 (s : Int)] w fun e w' => e = .returned (.bool true) ∧ Below w.heap.size w w' := by
  have HFW := Lib.hid (fun (u : Value) (x : Int) (W : World) (h : PrR W W.heap.size u P) => rFew_any P u x W h)
  have HAW := Lib.hid (fun (W : World) (hb : Below w.heap.size w W) => awake_any W (hE.below hb).1 (hE.below hb).2)
  have HN1 := Lib.hid (fun (u : Value) (W : World) (hb : Below w.heap.size w W) (h : PrR W W.heap.size u P) => (aAnnounce_any P a s u W h hs (hE.below hb).1).mono fun e w' h => h.pf)
  have HN2 := Lib.hid (fun (u : Value) (W : World) (h : PrR W W.heap.size u P) => (rAnnounce_any P a s u W h hs).mono fun e w' h => h.pf)
  have HN3 := Lib.hid (fun (u : Value) (W : World) (hb : Below w.heap.size w W) (h : PrR W W.heap.size u P) => (aRoundE_any P s u W h hs (hE.below hb).1).mono fun e w' h => h.pf)
  have HN4 := Lib.hid (fun (u : Value) (W : World) (h : PrR W W.heap.size u P) => (rRoundE_any P s u W h hs).mono fun e w' h => h.pf)
  have HSM := Lib.hid same_self
  obtain ⟨A1, c1, A2, c2, rfl, hv, hr⟩ := hM.ex
  have HB0 : Hid (Below w.heap.size w (w.alloc (.cells #[.slice A1 P.wt.length c1, .slice A2 P.cells.length c2] 25))) := Lib.hid ((Below.refl _ w).alloc (Nat.le_refl _) _)
  have X0 := Lib.hid (BoxP.made hM)
  clear hM hv hr hE hs
  generalize P.wt.length = n at *
  generalize P.cells.length = m at *
  generalize annV P a s = Q1 at *
  generalize rndV P s = Q2 at *
  generalize postsE P a s = E1 at *
  generalize evE P s = E2 at *
  go_enter Tryd.func5, Tryd.ntmps5
  have x0_0 := X0.out.1.c0
  have x0_1 := X0.out.1.c1
  go_wp2_with fail
  clear x0_0 x0_1
  refine (HFW.out _ 20 _ X0.out.2).mono ?_
  rintro e w1 ⟨b, rfl, hb⟩
  have HB1 := Lib.hid (belowNext HB0.out hb)
  have hX0 := X0.out.step hb
  clear X0
  have X0 := Lib.hid hX0
  clear hX0
  clear HB0
  clear hb
  cases b
  case false =>
    go_wp2_with fail
    refine (HAW.out _ HB1.out).mono ?_
    rintro e w2 ⟨rfl, hb⟩
    have HB2 := Lib.hid (belowNext HB1.out hb)
    have hX0 := X0.out.step hb
    clear X0
    have X0 := Lib.hid hX0
    clear hX0
    clear HB1
    clear hb
    go_wp2
    go_ret
    exact ⟨rfl, HB2.out⟩
  case true =>
    have x0_0 := X0.out.1.c0
    have x0_1 := X0.out.1.c1
    go_wp2_with fail
    clear x0_0 x0_1
    refine (HN1.out _ _ HB1.out X0.out.2).mono ?_
    rintro e w2 ⟨B1_1, k1_1, e1_1, B2_1, k2_1, e2_1, rfl, hq, hb⟩
    have HB2 := Lib.hid (belowNext HB1.out hb)
    have hX0 := X0.out.step hb
    clear X0
    have X0 := Lib.hid hX0
    clear hX0
    clear HB1
    clear hb
    have hb : Below w2.heap.size w2 (w2.alloc (.cells #[.slice B1_1 k1_1 e1_1, .slice B2_1 k2_1 e2_1] 25)) := (Below.refl _ w2).alloc (Nat.le_refl _) _
    have HB3 := Lib.hid (belowNext HB2.out hb)
    have hX0 := X0.out.step hb
    clear X0
    have X0 := Lib.hid hX0
    clear hX0
    clear HB2
    have X1 := Lib.hid (BoxP.made hq)
    clear hb hq
    have x0_0 := X0.out.1.c0
    have x0_1 := X0.out.1.c1
    go_wp2_with fail
    clear x0_0 x0_1
    generalize w2.alloc (.cells #[.slice B1_1 k1_1 e1_1, .slice B2_1 k2_1 e2_1] 25) = w3 at *
    generalize w2.heap.size = GX1 at *
    refine (HN2.out _ _ X0.out.2).mono ?_
    rintro e w4 ⟨B1_2, k1_2, e1_2, B2_2, k2_2, e2_2, rfl, hq, hb⟩
    have HB4 := Lib.hid (belowNext HB3.out hb)
    have hX0 := X0.out.step hb
    clear X0
    have X0 := Lib.hid hX0
    clear hX0
    have hX1 := X1.out.step hb
    clear X1
    have X1 := Lib.hid hX1
    clear hX1
    clear HB3
    clear hb
    have hb : Below w4.heap.size w4 (w4.alloc (.cells #[.slice B1_2 k1_2 e1_2, .slice B2_2 k2_2 e2_2] 25)) := (Below.refl _ w4).alloc (Nat.le_refl _) _
    have HB5 := Lib.hid (belowNext HB4.out hb)
    have hX0 := X0.out.step hb
    clear X0
    have X0 := Lib.hid hX0
    clear hX0
    have hX1 := X1.out.step hb
    clear X1
    have X1 := Lib.hid hX1
    clear hX1
    clear HB4
    have X2 := Lib.hid (BoxP.made hq)
    clear hb hq
    have x0_0 := X0.out.1.c0
    have x0_1 := X0.out.1.c1
    go_wp2_with fail
    clear x0_0 x0_1
    generalize w4.alloc (.cells #[.slice B1_2 k1_2 e1_2, .slice B2_2 k2_2 e2_2] 25) = w5 at *
    generalize w4.heap.size = GX2 at *
    refine (HN3.out _ _ HB5.out X0.out.2).mono ?_
    rintro e w6 ⟨B1_3, k1_3, e1_3, B2_3, k2_3, e2_3, rfl, hq, hb⟩
    have HB6 := Lib.hid (belowNext HB5.out hb)
    have hX0 := X0.out.step hb
    clear X0
    have X0 := Lib.hid hX0
    clear hX0
    have hX1 := X1.out.step hb
    clear X1
    have X1 := Lib.hid hX1
    clear hX1
    have hX2 := X2.out.step hb
    clear X2
    have X2 := Lib.hid hX2
    clear hX2
    clear HB5
    clear hb
    have hb : Below w6.heap.size w6 (w6.alloc (.cells #[.slice B1_3 k1_3 e1_3, .slice B2_3 k2_3 e2_3] 25)) := (Below.refl _ w6).alloc (Nat.le_refl _) _
    have HB7 := Lib.hid (belowNext HB6.out hb)
    have hX0 := X0.out.step hb
    clear X0
    have X0 := Lib.hid hX0
    clear hX0
    have hX1 := X1.out.step hb
    clear X1
    have X1 := Lib.hid hX1
    clear hX1
    have hX2 := X2.out.step hb
    clear X2
    have X2 := Lib.hid hX2
    clear hX2
    clear HB6
    have X3 := Lib.hid (BoxP.made hq)
    clear hb hq
    have x0_0 := X0.out.1.c0
    have x0_1 := X0.out.1.c1
    go_wp2_with fail
    clear x0_0 x0_1
    generalize w6.alloc (.cells #[.slice B1_3 k1_3 e1_3, .slice B2_3 k2_3 e2_3] 25) = w7 at *
    generalize w6.heap.size = GX3 at *
    refine (HN4.out _ _ X0.out.2).mono ?_
    rintro e w8 ⟨B1_4, k1_4, e1_4, B2_4, k2_4, e2_4, rfl, hq, hb⟩
    have HB8 := Lib.hid (belowNext HB7.out hb)
    have hX0 := X0.out.step hb
    clear X0
    have X0 := Lib.hid hX0
    clear hX0
    have hX1 := X1.out.step hb
    clear X1
    have X1 := Lib.hid hX1
    clear hX1
    have hX2 := X2.out.step hb
    clear X2
    have X2 := Lib.hid hX2
    clear hX2
    have hX3 := X3.out.step hb
    clear X3
    have X3 := Lib.hid hX3
    clear hX3
    clear HB7
    clear hb
    have hb : Below w8.heap.size w8 (w8.alloc (.cells #[.slice B1_4 k1_4 e1_4, .slice B2_4 k2_4 e2_4] 25)) := (Below.refl _ w8).alloc (Nat.le_refl _) _
    have HB9 := Lib.hid (belowNext HB8.out hb)
    have hX0 := X0.out.step hb
    clear X0
    have X0 := Lib.hid hX0
    clear hX0
    have hX1 := X1.out.step hb
    clear X1
    have X1 := Lib.hid hX1
    clear hX1
    have hX2 := X2.out.step hb
    clear X2
    have X2 := Lib.hid hX2
    clear hX2
    have hX3 := X3.out.step hb
    clear X3
    have X3 := Lib.hid hX3
    clear hX3
    clear HB8
    have X4 := Lib.hid (BoxP.made hq)
    clear hb hq
    have x1_0 := X1.out.1.c0
    have x1_1 := X1.out.1.c1
    have x2_0 := X2.out.1.c0
    have x2_1 := X2.out.1.c1
    go_wp2_with fail
    clear x1_0 x1_1 x2_0 x2_1
    generalize w8.alloc (.cells #[.slice B1_4 k1_4 e1_4, .slice B2_4 k2_4 e2_4] 25) = w9 at *
    generalize w8.heap.size = GX4 at *
    refine (HSM.out _ _ _ _ X1.out.2 X2.out.2).mono ?_
    rintro e w10 ⟨rfl, hb⟩
    have HB10 := Lib.hid (belowNext HB9.out hb)
    have hX0 := X0.out.step hb
    clear X0
    have X0 := Lib.hid hX0
    clear hX0
    have hX1 := X1.out.step hb
    clear X1
    have X1 := Lib.hid hX1
    clear hX1
    have hX2 := X2.out.step hb
    clear X2
    have X2 := Lib.hid hX2
    clear hX2
    have hX3 := X3.out.step hb
    clear X3
    have X3 := Lib.hid hX3
    clear hX3
    have hX4 := X4.out.step hb
    clear X4
    have X4 := Lib.hid hX4
    clear hX4
    clear HB9
    clear hb
    have x3_0 := X3.out.1.c0
    have x3_1 := X3.out.1.c1
    have x4_0 := X4.out.1.c0
    have x4_1 := X4.out.1.c1
    go_wp2_with fail
    clear x3_0 x3_1 x4_0 x4_1
    refine (HSM.out _ _ _ _ X3.out.2 X4.out.2).mono ?_
    rintro e w11 ⟨rfl, hb⟩
    have HB11 := Lib.hid (belowNext HB10.out hb)
    have hX0 := X0.out.step hb
    clear X0
    have X0 := Lib.hid hX0
    clear hX0
    have hX1 := X1.out.step hb
    clear X1
    have X1 := Lib.hid hX1
    clear hX1
    have hX2 := X2.out.step hb
    clear X2
    have X2 := Lib.hid hX2
    clear hX2
    have hX3 := X3.out.step hb
    clear X3
    have X3 := Lib.hid hX3
    clear hX3
    have hX4 := X4.out.step hb
    clear X4
    have X4 := Lib.hid hX4
    clear hX4
    clear HB10
    clear hb
    go_wp2_with fail
    refine (HAW.out _ HB11.out).mono ?_
    rintro e w12 ⟨rfl, hb⟩
    have HB12 := Lib.hid (belowNext HB11.out hb)
    have hX0 := X0.out.step hb
    clear X0
    have X0 := Lib.hid hX0
    clear hX0
    have hX1 := X1.out.step hb
    clear X1
    have X1 := Lib.hid hX1
    clear hX1
    have hX2 := X2.out.step hb
    clear X2
    have X2 := Lib.hid hX2
    clear hX2
    have hX3 := X3.out.step hb
    clear X3
    have X3 := Lib.hid hX3
    clear hX3
    have hX4 := X4.out.step hb
    clear X4
    have X4 := Lib.hid hX4
    clear hX4
    clear HB11
    clear hb
    go_wp2
    go_ret
    exact ⟨rfl, HB12.out⟩
set_option maxRecDepth 100000 in
theorem contract (H : Type) (enc : TypeId × Value → H) (W : World) (base : Nat) (args : Array Value) (ds gs : List (DataW H)) (before : List MemPlace)
    (hval : ∀ (j : Nat) t v, Tryd.f5.params[j]? = some t → args[j]? = some v → Value.okWide Tryd.prog W .any base t v)
    (hW : DataW.Whole enc Tryd.prog Tryd.f5.params.toList Rows.agreementTellsSpec.vars false W args.toList ds gs before) (hE : Tab W ∧ FinW W) :
    Calls Tryd.prog 5 args W fun e W' => ∃ v, e = .returned v ∧ Rows.agreementTellsSpec.post enc Tryd.prog Tryd.f5 false true false false W args v W' := by
  have hW' := hW
  obtain ⟨p, q, hA0, hV, rfl, hfz, hnd⟩ := hW
  have hA : DataW.TrodAll enc Tryd.prog W 0 (fun _ => true) true Tryd.f5.params.toList args.toList ds p := hA0
  rw [Tryd.params5] at hA hval
  obtain ⟨v0, vs0, d0, ds0, p0, q0, hargs, rfl, rfl, h0, r0⟩ := trodAll_cons hA
  obtain ⟨v1, vs1, d1, ds1, p1, q1, rfl, rfl, rfl, h1, r1⟩ := trodAll_cons r0
  obtain ⟨v2, vs2, d2, ds2, p2, q2, rfl, rfl, rfl, h2, r2⟩ := trodAll_cons r1
  obtain ⟨rfl, rfl, rfl⟩ := trodAll_nil r2
  obtain rfl : args = #[v0, v1, v2] := by cases args; simp_all
  obtain ⟨rfl, rfl⟩ := trodVars_none hV
  obtain ⟨P0, w0⟩ := open_prior (hval 0 25 v0 rfl rfl) h0
  have k0 := h0
  have lt0 : ∀ x ∈ p0, x.block < W.heap.size := by obtain ⟨m, hm⟩ := k0; exact DataW.trod_lt m _ _ _ hm
  obtain ⟨g1, rfl, rfl, rfl, w1⟩ := open_int Tryd.underlying3 (hval 1 3 v1 rfl rfl) h1
  obtain ⟨g2, rfl, rfl, rfl, w2⟩ := open_int Tryd.underlying28 (hval 2 28 v2 rfl rfl) h2
  obtain ⟨g2, rfl, hu2⟩ : ∃ n : Nat, g2 = (n : Int) ∧ n < 18446744073709551616 := by have hz := w2; have q1 : IntKind.u64.min = 0 := rfl; have q2 : IntKind.u64.max = 18446744073709551615 := rfl; simp [Lit.wf] at hz; exact ⟨g2.toNat, by omega, by omega⟩
  clear hA0
  simp only [List.append_nil] at hW'
  have hwalk := walk P0 v0 g1 g2 W w0 hu2 hE
  refine hwalk.mono fun e W' ⟨he, hg⟩ => ?_
  subst he
  exact ⟨_, rfl, _, _, _, [], _, [], hW', trodAll_mk1 (shut_bool Tryd.underlying4 _), (trodAll_cons_mk (Below.trod laidOut (by kernel_rfl) (of_decide_eq_true (by kernel_rfl)) k0 hg lt0) (trodAll_cons_mk (shut_int Tryd.underlying3 w1) (trodAll_cons_mk (shut_int Tryd.underlying28 w2) trodAll_mk0))), rfl, hg.frame _, fun h => by cases h⟩
theorem reads (os : Os) {H : Type} (enc : TypeId × Value → H) : ∃ places, DataW.whole enc Tryd.prog ((laidW os).forCall (fun _ _ => 0) ⟨#[], #[.agg #[.slice none 0 0, .slice none 0 0], .int .i64 0, .int .u64 0], []⟩).memory Tryd.f5.params.toList Rows.agreementTellsSpec.vars false #[(.agg #[.slice none 0 0, .slice none 0 0] : Value), (.int .i64 0 : Value), (.int .u64 0 : Value)].toList 8 = some ([.agg [.nil, .nil], .lit (.int .i64 0), .lit (.int .u64 0)], [], places) :=
  ⟨[], by kernel_rfl⟩
set_option maxRecDepth 100000 in
theorem lifted (os : Os) (started : os.Started) (H : Type) (enc : TypeId × Value → H) (F : Stop.Interp) :
    ReturnsInHanded {} Tryd.checked os 5 .any ((OpenSpec.ofChange Rows.agreementTellsSpec).preRow enc Tryd.prog Tryd.f5 Rows.agreementTellsRow.domain false Rows.agreementTellsRow.laid) (((OpenSpec.ofChange Rows.agreementTellsSpec).at F).post enc Tryd.prog Tryd.f5 false true false false) := by
  obtain ⟨places, hx⟩ := reads os enc
  refine returnsInHanded_of_row (C := Tryd.checked) (s := OpenSpec.ofChange Rows.agreementTellsSpec) own started (by kernel_rfl) Tryd.func5
    (witness_row_atRef (enc := enc) (C := Tryd.checked) false (laidW os) #[.agg #[.slice none 0 0, .slice none 0 0], .int .i64 0, .int .u64 0] (laidW_os os) (vars_ok os _) (heap_ok os _) (by kernel_rfl)
      (OpenSpec.preRow_of_cond 8 hx (by kernel_rfl) (fun k hk => by cases hk) (by kernel_rfl) (laid_met os _))) ?_
  intro W base args ds gs before hval hW _ _ _ hL hsh _
  exact contract H enc W base args ds gs before hval hW (env_of hL)
theorem said : Rows.AgreementTellsSaid :=
  OpenClaim.holds_of_cond 5 Tryd.f5 rfl rfl rfl rfl rfl rfl rfl ⟨rfl, rfl, rfl, rfl, rfl⟩ rfl rfl rfl rfl rfl (by kernel_rfl) Tryd.func5 (by kernel_rfl)
    (of_decide_eq_true (by kernel_rfl)) (by unfold Func.isWrapper; first | (rw [if_pos (by decide +kernel)]; kernel_rfl) | (rw [if_neg (by decide +kernel)]; exact ⟨rfl, rfl⟩))
    (fun os started H enc _ F => by rw [OpenClaim.pre_eq_preRow]; exact lifted os started H enc F)
theorem plain (f : FuncId) (fn : Func) (hf : Tryd.pinned.checked.prog.funcNamed "witting/wittinglaw24.AgreementTells" = some f) (hfn : Tryd.pinned.checked.prog.funcs[f]? = some fn) :
    false = Tryd.pinned.checked.prog.looks [] ∧ ∀ (j : Nat) t, fn.params[j]? = some t → Tryd.pinned.checked.prog.wantsStandIn t = false := by
  obtain rfl : f = 5 := Option.some.inj ((show Tryd.prog.funcNamed "witting/wittinglaw24.AgreementTells" = some 5 by kernel_rfl).symm.trans hf) |>.symm
  obtain rfl : fn = Tryd.f5 := (Option.some.inj (Tryd.func5.symm.trans hfn)).symm
  refine ⟨no_looks, fun j t ht => ?_⟩
  rw [Tryd.params5] at ht
  have hm : t ∈ [25, 3, 28] := by simpa using Array.mem_of_getElem? ht
  have hall : ([25, 3, 28].all fun u => !Tryd.prog.wantsStandIn u) = true := by kernel_rfl
  exact (show Tryd.prog.wantsStandIn t = false by simpa using List.all_eq_true.1 hall t hm)
theorem card : Rows.AgreementTellsCardSaid :=
  Claim7.holds_tied_plain_at .later [] _ _ _ _ said (fun _ h => by cases h) (by kernel_rfl) (fun _ h => by cases h) agreementTells_row_tie rfl ⟨rfl, rfl⟩ (by kernel_rfl) rfl plain (by kernel_rfl)
#print axioms card
end Go.Proofs.YtfbgabcdeecpoaaDoor.agreementTells
