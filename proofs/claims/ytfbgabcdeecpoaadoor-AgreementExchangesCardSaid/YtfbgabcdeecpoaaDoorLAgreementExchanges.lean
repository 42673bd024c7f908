/- Layer 24: AgreementExchanges. -/
import Derived.Test.YtfbgabcdeecpoaaDoorNMu
namespace Go.Proofs.YtfbgabcdeecpoaaDoor.agreementExchanges
open Go.ChangeShapes Go.WideShapes Go.ChangeAt Go.RowKit Go.Proofs.YtfbgabcdeecpoaaDoor Go.Proofs.YtfbgabcdeecpoaaDoor.agr Go.Proofs.Ws
open Go.ChangeMaps (open_string shut_string)
set_option maxRecDepth 100000
set_option maxHeartbeats 8000000 in
theorem walk (P : Pri) (v : Value) (s : Nat) (w : World) (hM : PrR w w.heap.size v P) (hs : s < 18446744073709551616) (hE : EnvW w) :
    Calls Tryd.prog 6 #[v, .int .u64 (s : Int)] w fun e w' => e = .returned (.bool true) ∧ Below w.heap.size w w' := by
  have HFW := Lib.hid (fun (u : Value) (x : Int) (W : World) (h : PrR W W.heap.size u P) => rFew_any P u x W h)
  have HAW := Lib.hid (fun (W : World) (hb : Below w.heap.size w W) => awake_any W (hE.below hb).1 (hE.below hb).2)
  have HN1 : Hid (∀ (u : Value) (W : World), Below w.heap.size w W → PrR W W.heap.size u P → Calls Tryd.prog 34 #[u, .int .u64 (s : Int)] W fun e w' => ∃ K, KOf P s K ∧ GivesLP (exN P s) K (evE P s) W e w') := Lib.hid (fun u W hb h => (aExchange_any P s u W h hs (hE.below hb).1).mono fun e w' h => h.lp)
  have HN2 : Hid (∀ (K : Nat) (u : Value) (W : World), KOf P s K → PrR W W.heap.size u P → Calls Tryd.prog 35 #[u, .int .u64 (s : Int)] W (GivesLP (exN P s) K (evE P s) W)) := Lib.hid (fun K u W hK h => (rExchange_any P s u W h hs).mono fun e w' h => by
    obtain ⟨L, h1, h2⟩ := h.lp
    rw [hK.unique h1]
    exact h2)
  have HKL : Hid (∀ K, KOf P s K → K ≤ 257) := Lib.hid (fun K h => h.le)
  have HSM := Lib.hid same_self
  obtain ⟨A1, c1, A2, c2, rfl, hv, hr⟩ := hM.ex
  have HB0 : Hid (Below w.heap.size w (w.alloc (.cells #[.slice A1 P.wt.length c1, .slice A2 P.cells.length c2] 25))) := Lib.hid ((Below.refl _ w).alloc (Nat.le_refl _) _)
  have X0 := Lib.hid (BoxP.made hM)
  clear hM hv hr hE hs
  generalize P.wt.length = n at *
  generalize P.cells.length = m at *
  generalize exN P s = X at *
  generalize KOf P s = KO at *
  generalize evE P s = E at *
  go_enter Tryd.func6, Tryd.ntmps6
  have x0_0 := X0.out.1.c0
  have x0_1 := X0.out.1.c1
  go_wp2_with fail
  clear x0_0 x0_1
  refine (HFW.out _ 16 _ X0.out.2).mono ?_
  rintro e w1 ⟨b, rfl, hb⟩
  have HB1 := Lib.hid (belowNext HB0.out hb)
  have hX0 := X0.out.step hb
  clear X0
  have X0 := Lib.hid hX0
  clear hX0
  clear HB0
  clear hb
  cases b
  case false =>
    go_wp2_with fail
    refine (HAW.out _ HB1.out).mono ?_
    rintro e w2 ⟨rfl, hb⟩
    have HB2 := Lib.hid (belowNext HB1.out hb)
    have hX0 := X0.out.step hb
    clear X0
    have X0 := Lib.hid hX0
    clear hX0
    clear HB1
    clear hb
    go_wp2
    go_ret
    exact ⟨rfl, HB2.out⟩
  case true =>
    have x0_0 := X0.out.1.c0
    have x0_1 := X0.out.1.c1
    go_wp2_with fail
    clear x0_0 x0_1
    refine (HN1.out _ _ HB1.out X0.out.2).mono ?_
    rintro e w2 ⟨K, hK, B1, e1, rfl, hl, hb⟩
    have HK := Lib.hid hK
    have hk2 := HKL.out K hK
    clear hK
    have L1 := Lib.hid hl
    clear hl
    have HB2 := Lib.hid (belowNext HB1.out hb)
    have hX0 := X0.out.step hb
    clear X0
    have X0 := Lib.hid hX0
    clear hX0
    clear HB1
    clear hb
    have x0_0 := X0.out.1.c0
    have x0_1 := X0.out.1.c1
    go_wp2_with fail
    clear x0_0 x0_1
    refine (HN2.out K _ _ HK.out X0.out.2).mono ?_
    rintro e w3 ⟨B2, e2, rfl, hl, hb⟩
    have L2 := Lib.hid hl
    clear hl
    have HB3 := Lib.hid (belowNext HB2.out hb)
    have hX0 := X0.out.step hb
    clear X0
    have X0 := Lib.hid hX0
    clear hX0
    have hL1 := L1.out.step hb
    clear L1
    have L1 := Lib.hid hL1
    clear hL1
    clear HB2
    clear hb
    go_wp2
    clear HN1 HN2 HFW
    go_loopw [9, 38] (fun _ i wr => ∃ k : Nat, k ≤ K ∧ i = .int .i64 (k : Int) ∧ Hid (Below w.heap.size w wr ∧ LstP wr B1 K X ∧ LstP wr B2 K X)) (fun _ i _ => K - (intOf i).toNat)
    case atStart => exact ⟨0, Nat.zero_le _, rfl, Lib.hid ⟨HB3.out, L1.out, L2.out⟩⟩
    case round =>
      clear L1 L2 X0
      obtain ⟨k, hk, rfl, HI⟩ := hrel
      by_cases hlt : k < K
      · obtain ⟨b1, o1, V1, V2, rfl, hA⟩ := HI.out.2.1.at_ hlt
        obtain ⟨b2, o2, V3, V4, rfl, hB⟩ := HI.out.2.2.at_ hlt
        have l0 := (hA _ (Below.refl _ wr)).1
        have l1 := (hA _ (Below.refl _ wr)).2.1
        have l2 := (hB _ (Below.refl _ wr)).1
        have l3 := (hB _ (Below.refl _ wr)).2.1
        have HS := Lib.hid (fun W hb => HSM.out (X k) (.agg #[V1, V2]) (.agg #[V3, V4]) W (hA W hb).2.2 (hB W hb).2.2)
        have hdd : Below wr.heap.size wr wr.drew := (Below.refl _ wr).drew
        clear hA hB
        go_wp2
        go_region_with (go_at_call 33; refine (HS.out _ ?_).mono ?_; assumption; rintro e w8 ⟨rfl, hb8⟩; have hc8 : Below wr.heap.size wr w8 := (by refine belowNext ?_ hb8; assumption); clear hb8)
        all_goals
          have HI8 := Lib.hid (⟨belowNext HI.out.1 hc8, HI.out.2.1.step hc8, HI.out.2.2.step hc8⟩ : _ ∧ _ ∧ _)
          clear hc8 l0 l1 l2 l3 hdd
          go_wp2
          go_roundw
          case rel => exact ⟨k + 1, by omega, by go_num, HI8⟩
          case measure => first | (simp [intOf]; done) | (simp [intOf]; omega)
      · obtain rfl : k = K := by omega
        go_wp2_with fail
        refine (HAW.out _ HI.out.1).mono ?_
        rintro e w5 ⟨rfl, hb⟩
        have HBZ := Lib.hid (belowNext HI.out.1 hb)
        clear hb
        go_wp2
        go_ret
        exact ⟨rfl, HBZ.out⟩
set_option maxRecDepth 100000 in
theorem contract (H : Type) (enc : TypeId × Value → H) (W : World) (base : Nat) (args : Array Value) (ds gs : List (DataW H)) (before : List MemPlace)
    (hval : ∀ (j : Nat) t v, Tryd.f6.params[j]? = some t → args[j]? = some v → Value.okWide Tryd.prog W .any base t v)
    (hW : DataW.Whole enc Tryd.prog Tryd.f6.params.toList Rows.agreementExchangesSpec.vars false W args.toList ds gs before) (hE : Tab W ∧ FinW W) :
    Calls Tryd.prog 6 args W fun e W' => ∃ v, e = .returned v ∧ Rows.agreementExchangesSpec.post enc Tryd.prog Tryd.f6 false true false false W args v W' := by
  have hW' := hW
  obtain ⟨p, q, hA0, hV, rfl, hfz, hnd⟩ := hW
  have hA : DataW.TrodAll enc Tryd.prog W 0 (fun _ => true) true Tryd.f6.params.toList args.toList ds p := hA0
  rw [Tryd.params6] at hA hval
  obtain ⟨v0, vs0, d0, ds0, p0, q0, hargs, rfl, rfl, h0, r0⟩ := trodAll_cons hA
  obtain ⟨v1, vs1, d1, ds1, p1, q1, rfl, rfl, rfl, h1, r1⟩ := trodAll_cons r0
  obtain ⟨rfl, rfl, rfl⟩ := trodAll_nil r1
  obtain rfl : args = #[v0, v1] := by cases args; simp_all
  obtain ⟨rfl, rfl⟩ := trodVars_none hV
  obtain ⟨P0, w0⟩ := open_prior (hval 0 25 v0 rfl rfl) h0
  have k0 := h0
  have lt0 : ∀ x ∈ p0, x.block < W.heap.size := by obtain ⟨m, hm⟩ := k0; exact DataW.trod_lt m _ _ _ hm
  obtain ⟨g1, rfl, rfl, rfl, w1⟩ := open_int Tryd.underlying28 (hval 1 28 v1 rfl rfl) h1
  obtain ⟨g1, rfl, hu1⟩ : ∃ n : Nat, g1 = (n : Int) ∧ n < 18446744073709551616 := by have hz := w1; have q1 : IntKind.u64.min = 0 := rfl; have q2 : IntKind.u64.max = 18446744073709551615 := rfl; simp [Lit.wf] at hz; exact ⟨g1.toNat, by omega, by omega⟩
  clear hA0
  simp only [List.append_nil] at hW'
  have hwalk := walk P0 v0 g1 W w0 hu1 hE
  refine hwalk.mono fun e W' ⟨he, hg⟩ => ?_
  subst he
  exact ⟨_, rfl, _, _, _, [], _, [], hW', trodAll_mk1 (shut_bool Tryd.underlying4 _), (trodAll_cons_mk (Below.trod laidOut (by kernel_rfl) (of_decide_eq_true (by kernel_rfl)) k0 hg lt0) (trodAll_cons_mk (shut_int Tryd.underlying28 w1) trodAll_mk0)), rfl, hg.frame _, fun h => by cases h⟩
theorem reads (os : Os) {H : Type} (enc : TypeId × Value → H) : ∃ places, DataW.whole enc Tryd.prog ((laidW os).forCall (fun _ _ => 0) ⟨#[], #[.agg #[.slice none 0 0, .slice none 0 0], .int .u64 0], []⟩).memory Tryd.f6.params.toList Rows.agreementExchangesSpec.vars false #[(.agg #[.slice none 0 0, .slice none 0 0] : Value), (.int .u64 0 : Value)].toList 8 = some ([.agg [.nil, .nil], .lit (.int .u64 0)], [], places) :=
  ⟨[], by kernel_rfl⟩
set_option maxRecDepth 100000 in
theorem lifted (os : Os) (started : os.Started) (H : Type) (enc : TypeId × Value → H) (F : Stop.Interp) :
    ReturnsInHanded {} Tryd.checked os 6 .any ((OpenSpec.ofChange Rows.agreementExchangesSpec).preRow enc Tryd.prog Tryd.f6 Rows.agreementExchangesRow.domain false Rows.agreementExchangesRow.laid) (((OpenSpec.ofChange Rows.agreementExchangesSpec).at F).post enc Tryd.prog Tryd.f6 false true false false) := by
  obtain ⟨places, hx⟩ := reads os enc
  refine returnsInHanded_of_row (C := Tryd.checked) (s := OpenSpec.ofChange Rows.agreementExchangesSpec) own started (by kernel_rfl) Tryd.func6
    (witness_row_atRef (enc := enc) (C := Tryd.checked) false (laidW os) #[.agg #[.slice none 0 0, .slice none 0 0], .int .u64 0] (laidW_os os) (vars_ok os _) (heap_ok os _) (by kernel_rfl)
      (OpenSpec.preRow_of_cond 8 hx (by kernel_rfl) (fun k hk => by cases hk) (by kernel_rfl) (laid_met os _))) ?_
  intro W base args ds gs before hval hW _ _ _ hL hsh _
  exact contract H enc W base args ds gs before hval hW (env_of hL)
theorem said : Rows.AgreementExchangesSaid :=
  OpenClaim.holds_of_cond 6 Tryd.f6 rfl rfl rfl rfl rfl rfl rfl ⟨rfl, rfl, rfl, rfl, rfl⟩ rfl rfl rfl rfl rfl (by kernel_rfl) Tryd.func6 (by kernel_rfl)
    (of_decide_eq_true (by kernel_rfl)) (by unfold Func.isWrapper; first | (rw [if_pos (by decide +kernel)]; kernel_rfl) | (rw [if_neg (by decide +kernel)]; exact ⟨rfl, rfl⟩))
    (fun os started H enc _ F => by rw [OpenClaim.pre_eq_preRow]; exact lifted os started H enc F)
theorem plain (f : FuncId) (fn : Func) (hf : Tryd.pinned.checked.prog.funcNamed "witting/wittinglaw24.AgreementExchanges" = some f) (hfn : Tryd.pinned.checked.prog.funcs[f]? = some fn) :
    false = Tryd.pinned.checked.prog.looks [] ∧ ∀ (j : Nat) t, fn.params[j]? = some t → Tryd.pinned.checked.prog.wantsStandIn t = false := by
  obtain rfl : f = 6 := Option.some.inj ((show Tryd.prog.funcNamed "witting/wittinglaw24.AgreementExchanges" = some 6 by kernel_rfl).symm.trans hf) |>.symm
  obtain rfl : fn = Tryd.f6 := (Option.some.inj (Tryd.func6.symm.trans hfn)).symm
  refine ⟨no_looks, fun j t ht => ?_⟩
  rw [Tryd.params6] at ht
  have hm : t ∈ [25, 28] := by simpa using Array.mem_of_getElem? ht
  have hall : ([25, 28].all fun u => !Tryd.prog.wantsStandIn u) = true := by kernel_rfl
  exact (show Tryd.prog.wantsStandIn t = false by simpa using List.all_eq_true.1 hall t hm)
theorem card : Rows.AgreementExchangesCardSaid :=
  Claim7.holds_tied_plain_at .later [] _ _ _ _ said (fun _ h => by cases h) (by kernel_rfl) (fun _ h => by cases h) agreementExchanges_row_tie rfl ⟨rfl, rfl⟩ (by kernel_rfl) rfl plain (by kernel_rfl)
#print axioms card
end Go.Proofs.YtfbgabcdeecpoaaDoor.agreementExchanges
