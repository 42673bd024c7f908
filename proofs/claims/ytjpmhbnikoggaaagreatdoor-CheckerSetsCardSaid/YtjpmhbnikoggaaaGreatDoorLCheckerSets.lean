/- Layer 17: CheckerSets: Sets returns the specified set for each node. -/
import Derived.Test.YtjpmhbnikoggaaaGreatDoorCq
import Derived.Test.YtjpmhbnikoggaaaGreatDoorNKf
namespace Go.Proofs.YtjpmhbnikoggaaaGreatDoor.checkerSets
open Go.ChangeShapes Go.WideShapes Go.ChangeAt Go.RowKit Go.Proofs.YtjpmhbnikoggaaaGreatDoor Go.Proofs.YtjpmhbnikoggaaaGreatDoor.ckf Go.Proofs.Ws
open Go.ChangeMaps (open_string shut_string)
set_option maxRecDepth 100000
set_option maxHeartbeats 16000000 in
theorem walk (m : Mo) (v : Value) (fF : List Nd) (AF : Option Addr) (nF cF : Nat) (w : World) (hM : MoR w w.heap.size v m) (hRF : Reads w w.heap.size 6 AF nF (nds fF)) (hmF : nF ≤ maxLen) (hT : Tab w) :
    Calls Tryz.prog 6 #[v, .slice AF nF cF] w fun e w' => e = .returned (.bool true) ∧ Below w.heap.size w w' := by
  obtain ⟨A1, c1, A2, c2, rfl, hv, hr⟩ := hM.ex
  have HB0 := Lib.hid ((Below.refl w.heap.size w).alloc (Nat.le_refl _) (.cells #[.int .i64 m.n, .slice A1 m.val.length c1, .slice A2 m.rel.length c2] 25))
  have KB0 := Lib.hid (MBox.made w m.n (.slice A1 m.val.length c1) (.slice A2 m.rel.length c2))
  have HMW := Lib.hid (fun W (hb : Below w.heap.size w W) => hM.below hb hb.size)
  have HT := Lib.hid (fun W (hb : Below w.heap.size w W) => hT.below hb)
  have HAW : Hid (∀ W, Below w.heap.size w W → Calls Tryz.prog 20 #[] W fun e w' => e = .returned (.bool true) ∧ Below W.heap.size W w') := Lib.hid (fun W hb => awake17_any W (hT.below hb))
  have HFF := Lib.hid (fun W (hb : Below w.heap.size w W) => (hRF.below hb).more hb.size)
  have HMF := Lib.hid hmF
  clear hM hT hv hr hRF hmF
  have HpS := Lib.hid (fun W (hb : Below w.heap.size w W) => pSets_anyC m _ fF AF nF cF W (HMW.out W hb) (HFF.out W hb) HMF.out (HT.out W hb))
  unfold GivesT at HpS
  have HrS := Lib.hid (fun W (hb : Below w.heap.size w W) => rSets_anyC m _ fF AF nF cF W (HMW.out W hb) (HFF.out W hb) HMF.out)
  unfold GivesT at HrS
  have HSL : Hid ((setsR m fF).length ≤ maxLen) := Lib.hid (by
    unfold setsR
    split
    · rename_i hz
      rw [valsL_len]
      have := (fErr_ok (chkF_zero hz).2.1).2.1
      unfold maxLen; omega
    · simp)
  generalize chkF m fF = ce at *
  generalize setsR m fF = sl at *
  have HSS : Hid (∀ (W : World) (A B : Option Addr) (c d : Nat), Reads W W.heap.size 1 A sl.length (us sl) → Reads W W.heap.size 1 B sl.length (us sl) → Calls Tryz.prog 30 #[.slice A sl.length c, .slice B sl.length d] W fun e w' => e = .returned (.bool true) ∧ ∃ q, w' = W.drewN q) := Lib.hid (fun W A B c d h1 h2 => by
    have h := rSameSets_any sl sl A B sl.length sl.length c d W.heap.size W h1 h2 HSL.out HSL.out
    rw [decide_eq_true rfl] at h
    exact h)
  generalize hsl : sl.length = ls at *
  have HLS := Lib.hid hsl
  clear hsl HSL
  go_enter Tryz.func6, Tryz.ntmps6
  go_wp2_with fail
  refine (HAW.out _ HB0.out).mono ?_
  rintro e w1 ⟨rfl, hb⟩
  have HB1 := Lib.hid (HB0.out.trans (hb.mono HB0.out.size))
  have KB1 := Lib.hid (KB0.out.below hb KB0.out.lt)
  clear hb
  have hal := (Below.refl w1.heap.size w1).alloc (Nat.le_refl _) (.cells #[.slice AF nF cF] 34)
  have HB1a := Lib.hid (HB1.out.trans (hal.mono HB1.out.size))
  have KB1a := Lib.hid (KB1.out.below hal KB1.out.lt)
  clear hal
  have HFE := Lib.hid (lFew_anyC m _ [nF] w1.heap.size 1 (w1.alloc (.cells #[.slice AF nF cF] 34)) (HMW.out _ HB1a.out) rfl (by decide) (by simp) (fun j hj => by
    match j, hj with
    | 0, _ => exact ⟨AF, cF, (Lib.cell_of_heap (heap_alloc_new w1 (.cells #[.slice AF nF cF] 34)) 0).trans rfl⟩))
  generalize hfb : ([nF].all (fun x => decide (x ≤ 60)) && fewK m 16) = fb at *
  have b0 := KB1.out.c0
  have b1 := KB1.out.c1
  have b2 := KB1.out.c2
  cases fb with
  | false =>
    clear hfb
    go_wp2_with fail
    refine (HFE.out).mono ?_
    rintro e w2 ⟨rfl, hb⟩
    have HB2 := Lib.hid (HB1a.out.trans (hb.mono HB1a.out.size))
    have KB2 := Lib.hid (KB1a.out.below hb KB1a.out.lt)
    clear hb
    clear b0 b1 b2
    go_wp2_with fail
    refine (HAW.out _ HB2.out).mono ?_
    rintro e w99 ⟨rfl, hb⟩
    have HB99 := Lib.hid (HB2.out.trans (hb.mono HB2.out.size))
    clear hb
    go_wp2
    go_ret
    exact ⟨rfl, HB99.out⟩
  | true =>
    have HFB := Lib.hid hfb
    clear hfb
    go_wp2_with fail
    refine (HFE.out).mono ?_
    rintro e w2 ⟨rfl, hb⟩
    have HB2 := Lib.hid (HB1a.out.trans (hb.mono HB1a.out.size))
    have KB2 := Lib.hid (KB1a.out.below hb KB1a.out.lt)
    clear hb HFE
    clear b0 b1 b2
    have b0 := KB2.out.c0
    have b1 := KB2.out.c1
    have b2 := KB2.out.c2
    go_wp2_with fail
    refine (HpS.out _ HB2.out).mono ?_
    rintro e w3 ⟨Ap, cp, rfl, hp, hb⟩
    have HB3 := Lib.hid (HB2.out.trans (hb.mono HB2.out.size))
    have KB3 := Lib.hid (KB2.out.below hb KB2.out.lt)
    have HP := Lib.hid hp
    clear hb hp
    clear b0 b1 b2
    have b0 := KB3.out.c0
    have b1 := KB3.out.c1
    have b2 := KB3.out.c2
    go_wp2_with fail
    refine (HrS.out _ HB3.out).mono ?_
    rintro e w4 ⟨Ar, cr, rfl, hq, hb⟩
    have HB4 := Lib.hid (HB3.out.trans (hb.mono HB3.out.size))
    have KB4 := Lib.hid (KB3.out.below hb KB3.out.lt)
    have HP4 := Lib.hid ((HP.out.below hb).more hb.size)
    have HS4 := Lib.hid (HSS.out w4 Ap Ar cp cr HP4.out hq)
    clear hb hq
    clear b0 b1 b2
    go_wp2_with fail
    refine (HS4.out).mono ?_
    rintro e w5 ⟨rfl, q, rfl⟩
    go_wp2
    go_ret
    exact ⟨rfl, below_drewN HB4.out q⟩
set_option maxRecDepth 100000 in
theorem contract (H : Type) (enc : TypeId × Value → H) (W : World) (base : Nat) (args : Array Value) (ds gs : List (DataW H)) (before : List MemPlace)
    (hval : ∀ (j : Nat) t v, Tryz.f6.params[j]? = some t → args[j]? = some v → Value.okWide Tryz.prog W .any base t v)
    (hW : DataW.Whole enc Tryz.prog Tryz.f6.params.toList Rows.checkerSetsSpec.vars false W args.toList ds gs before) (hE : Tab W) :
    Calls Tryz.prog 6 args W fun e W' => ∃ v, e = .returned v ∧ Rows.checkerSetsSpec.post enc Tryz.prog Tryz.f6 false true false false W args v W' := by
  have hW' := hW
  obtain ⟨p, q, hA0, hV, rfl, hfz, hnd⟩ := hW
  have hA : DataW.TrodAll enc Tryz.prog W 0 (fun _ => true) true Tryz.f6.params.toList args.toList ds p := hA0
  rw [Tryz.params6] at hA hval
  obtain ⟨v0, vs0, d0, ds0, p0, q0, hargs, rfl, rfl, h0, r0⟩ := trodAll_cons hA
  obtain ⟨v1, vs1, d1, ds1, p1, q1, rfl, rfl, rfl, h1, r1⟩ := trodAll_cons r0
  obtain ⟨rfl, rfl, rfl⟩ := trodAll_nil r1
  obtain rfl : args = #[v0, v1] := by cases args; simp_all
  obtain ⟨rfl, rfl⟩ := trodVars_none hV
  obtain ⟨m0, w0⟩ := open_mo (hval 0 25 v0 rfl rfl) h0
  have k0 := h0
  have lt0 : ∀ x ∈ p0, x.block < W.heap.size := by obtain ⟨m, hm⟩ := k0; exact DataW.trod_lt m _ _ _ hm
  obtain ⟨af1, nf1, cf1, rfl⟩ := okWide_slice Tryz.underlying34 (hval 1 34 v1 rfl rfl)
  obtain ⟨f1, w1⟩ : ∃ l, NdRow W af1 nf1 cf1 l := by
    obtain ⟨fuel, hf⟩ := h1
    exact open_nodes hf
  have k1 := h1
  have lt1 : ∀ x ∈ p1, x.block < W.heap.size := by obtain ⟨m, hm⟩ := k1; exact DataW.trod_lt m _ _ _ hm
  clear hA0
  have hwalk := walk m0 _ f1 af1 nf1 cf1 W w0 w1.1 w1.2.2.2 hE
  refine hwalk.mono fun e W' ⟨he, hg⟩ => ?_
  subst he
  exact ⟨_, rfl, _, _, _, [], _, [], hW', trodAll_mk1 (shut_bool Tryz.underlying4 _), (trodAll_cons_mk (Below.trod laidOut (by kernel_rfl) (of_decide_eq_true (by kernel_rfl)) k0 hg lt0) (trodAll_cons_mk (Below.trod laidOut (by kernel_rfl) (of_decide_eq_true (by kernel_rfl)) k1 hg lt1) trodAll_mk0)), rfl, hg.frame _, fun h => by cases h⟩
theorem reads (os : Os) {H : Type} (enc : TypeId × Value → H) : ∃ places, DataW.whole enc Tryz.prog ((laidW os).forCall (fun _ _ => 0) ⟨#[], #[.agg #[.int .i64 0, .slice none 0 0, .slice none 0 0], .slice none 0 0], []⟩).memory Tryz.f6.params.toList Rows.checkerSetsSpec.vars false #[(.agg #[.int .i64 0, .slice none 0 0, .slice none 0 0] : Value), (.slice none 0 0 : Value)].toList 8 = some ([.agg [.lit (.int .i64 0), .nil, .nil], .nil], [], places) :=
  ⟨[], by kernel_rfl⟩
set_option maxRecDepth 100000 in
theorem lifted (os : Os) (started : os.Started) (H : Type) (enc : TypeId × Value → H) (F : Stop.Interp) :
    ReturnsInHanded {} Tryz.checked os 6 .any ((OpenSpec.ofChange Rows.checkerSetsSpec).preRow enc Tryz.prog Tryz.f6 Rows.checkerSetsRow.domain false Rows.checkerSetsRow.laid) (((OpenSpec.ofChange Rows.checkerSetsSpec).at F).post enc Tryz.prog Tryz.f6 false true false false) := by
  obtain ⟨places, hx⟩ := reads os enc
  refine returnsInHanded_of_row (C := Tryz.checked) (s := OpenSpec.ofChange Rows.checkerSetsSpec) own started (by kernel_rfl) Tryz.func6
    (witness_row_atRef (enc := enc) (C := Tryz.checked) false (laidW os) #[.agg #[.int .i64 0, .slice none 0 0, .slice none 0 0], .slice none 0 0] (laidW_os os) (vars_ok os _) (heap_ok os _) (by kernel_rfl)
      (OpenSpec.preRow_of_cond 8 hx (by kernel_rfl) (fun k hk => by cases hk) (by kernel_rfl) (laid_met os _))) ?_
  intro W base args ds gs before hval hW _ _ _ hL hsh _
  exact contract H enc W base args ds gs before hval hW (env_of hL)
theorem said : Rows.CheckerSetsSaid :=
  OpenClaim.holds_of_cond 6 Tryz.f6 rfl rfl rfl rfl rfl rfl rfl ⟨rfl, rfl, rfl, rfl, rfl⟩ rfl rfl rfl rfl rfl (by kernel_rfl) Tryz.func6 (by kernel_rfl)
    (of_decide_eq_true (by kernel_rfl)) (by unfold Func.isWrapper; first | (rw [if_pos (by decide +kernel)]; kernel_rfl) | (rw [if_neg (by decide +kernel)]; exact ⟨rfl, rfl⟩))
    (fun os started H enc _ F => by rw [OpenClaim.pre_eq_preRow]; exact lifted os started H enc F)
theorem plain (f : FuncId) (fn : Func) (hf : Tryz.pinned.checked.prog.funcNamed "witting/wittinglaw17.CheckerSets" = some f) (hfn : Tryz.pinned.checked.prog.funcs[f]? = some fn) :
    false = Tryz.pinned.checked.prog.looks [] ∧ ∀ (j : Nat) t, fn.params[j]? = some t → Tryz.pinned.checked.prog.wantsStandIn t = false := by
  obtain rfl : f = 6 := Option.some.inj ((show Tryz.prog.funcNamed "witting/wittinglaw17.CheckerSets" = some 6 by kernel_rfl).symm.trans hf) |>.symm
  obtain rfl : fn = Tryz.f6 := (Option.some.inj (Tryz.func6.symm.trans hfn)).symm
  refine ⟨no_looks, fun j t ht => ?_⟩
  rw [Tryz.params6] at ht
  have hm : t ∈ [25, 34] := by simpa using Array.mem_of_getElem? ht
  have hall : ([25, 34].all fun u => !Tryz.prog.wantsStandIn u) = true := by kernel_rfl
  exact (show Tryz.prog.wantsStandIn t = false by simpa using List.all_eq_true.1 hall t hm)
theorem card : Rows.CheckerSetsCardSaid :=
  Claim7.holds_tied_plain_at .later [] _ _ _ _ said (fun _ h => by cases h) (by kernel_rfl) (fun _ h => by cases h) checkerSets_row_tie rfl ⟨rfl, rfl⟩ (by kernel_rfl) rfl plain (by kernel_rfl)
#print axioms card
end Go.Proofs.YtjpmhbnikoggaaaGreatDoor.checkerSets
