/- ParserTokens (P6.1): a text is divided into its tokens, or the specified error is returned. Conditions: the package variables that the row lists hold what the program's text lays in them. -/
import Derived.Test.YthhkeobjjeldhaaDoorJl
import Derived.Test.YthhkeobjjeldhaaDoorJr
namespace Go.Proofs.YthhkeobjjeldhaaDoor.parserTokens
open Go.ChangeShapes Go.WideShapes Go.ChangeAt Go.RowKit Go.Proofs.YthhkeobjjeldhaaDoor Go.Proofs.YthhkeobjjeldhaaDoor.par Go.Proofs.Ws Go.Maps
open Go.ChangeMaps (open_string shut_string)
set_option maxRecDepth 100000 in
set_option maxHeartbeats 4000000 in
theorem walk (t : ByteArray) (w : World) (ht : t.size ≤ maxLen) (hE : EnvS w) :
    Calls Tryd.prog 3 #[.string t] w fun e w' => e = .returned (.bool true) ∧ Below w.heap.size w w' := by
  have HE : Hid (∀ W, Below w.heap.size w W → EnvS W) := Lib.hid (fun W h => hE.below h)
  have HB0 := Lib.hid (Below.refl w.heap.size w)
  have HT1 := Lib.hid (fun W => kTokens_any t W ht)
  have HT2 := Lib.hid (fun W => rTokens_any t W ht)
  have hbnd := tokV_bound t
  unfold maxLen at ht
  clear hE
  by_cases h5 : 5000 < t.size
  · have d1 : decide ((5000 : Int) < (t.size : Int)) = true := decide_eq_true (by omega)
    have d2 : decide (5000 < t.size) = true := decide_eq_true h5
    clear h5 HT1 HT2 hbnd
    go_enter Tryd.func3, Tryd.ntmps3
    go_wp2_with fail
    refine (awake_any _ (HE.out _ HB0.out)).mono ?_
    rintro e w1 ⟨rfl, hb⟩
    have HB1 := Lib.hid hb
    clear hb
    go_wp2
    go_ret
    exact ⟨rfl, HB1.out⟩
  · have d1 : decide ((5000 : Int) < (t.size : Int)) = false := decide_eq_false (by omega)
    have d2 : decide (5000 < t.size) = false := decide_eq_false h5
    have HL1 : Hid ((tokV t).words.length ≤ maxLen) := Lib.hid (by unfold maxLen; omega)
    have HL2 : Hid ((tokV t).ats.length ≤ maxLen) := Lib.hid (by unfold maxLen; omega)
    clear h5 hbnd
    generalize (tokV t).words = ws at *
    generalize (tokV t).ats = ats at *
    generalize ((tokV t).pos : Int) = po at *
    generalize (tokV t).err = er at *
    have q1 : (er == er) = true := by simp
    have q2 : (po == po) = true := by simp
    generalize hLw : ws.length = Lw at *
    generalize hLa : ats.length = La at *
    go_enter Tryd.func3, Tryd.ntmps3
    go_wp2_with fail
    refine (HT1.out _).mono ?_
    rintro e w1 ⟨A1, c1, A2, c2, rfl, hR1, hR2, hb⟩
    have HB1 := Lib.hid hb
    have HR1 := Lib.hid hR1
    have HR2 := Lib.hid hR2
    clear hb hR1 hR2 HT1
    go_wp2_with fail
    refine (HT2.out _).mono ?_
    rintro e w2 ⟨A3, c3, A4, c4, rfl, hR3, hR4, hb⟩
    have HB2 := Lib.hid (HB1.out.trans (hb.mono HB1.out.size))
    have HS1 := Lib.hid (rSameWords_any ws ws A1 A3 Lw Lw c1 c3 w2 ((HR1.out.below hb).more hb.size) hR3 HL1.out HL1.out)
    have HS2 : Hid (∀ W, Below w2.heap.size w2 W → Calls Tryd.prog 13 #[.slice A2 La c2, .slice A4 La c4] W fun e w' => e = .returned (.bool (decide (ats = ats))) ∧ Below W.heap.size W w') := Lib.hid (fun W hW => rSameAt_any ats ats A2 A4 La La c2 c4 W (((((HR2.out.below hb).more hb.size)).below hW).more hW.size) ((hR4.below hW).more hW.size) HL2.out HL2.out)
    rw [decide_eq_true rfl] at HS1 HS2
    clear hb hR3 hR4 HT2 HR1 HR2
    go_wp2_with fail
    refine (HS1.out).mono ?_
    rintro e w3 ⟨rfl, hb⟩
    have HB3 := Lib.hid (HB2.out.trans (hb.mono HB2.out.size))
    have HS3 := Lib.hid (HS2.out w3 hb)
    clear hb HS1 HS2
    go_wp2_with fail
    refine (HS3.out).mono ?_
    rintro e w4 ⟨rfl, hb⟩
    have HB4 := Lib.hid (HB3.out.trans (hb.mono HB3.out.size))
    clear hb HS3
    go_wp2_with fail
    refine (awake_any _ (HE.out _ HB4.out)).mono ?_
    rintro e w5 ⟨rfl, hb⟩
    have HB5 := Lib.hid (HB4.out.trans (hb.mono HB4.out.size))
    clear hb
    go_wp2
    go_ret
    exact ⟨rfl, HB5.out⟩
set_option maxRecDepth 100000 in
theorem contract (H : Type) (enc : TypeId × Value → H) (W : World) (base : Nat) (args : Array Value) (ds gs : List (DataW H)) (before : List MemPlace)
    (hval : ∀ (j : Nat) t v, Tryd.f3.params[j]? = some t → args[j]? = some v → Value.okWide Tryd.prog W .any base t v)
    (hW : DataW.Whole enc Tryd.prog Tryd.f3.params.toList Rows.parserTokensSpec.vars false W args.toList ds gs before) (hE : EnvS W) :
    Calls Tryd.prog 3 args W fun e W' => ∃ v, e = .returned v ∧ Rows.parserTokensSpec.post enc Tryd.prog Tryd.f3 false true false false W args v W' := by
  have hW' := hW
  obtain ⟨p, q, hA0, hV, rfl, hfz, hnd⟩ := hW
  have hA : DataW.TrodAll enc Tryd.prog W 0 (fun _ => true) true Tryd.f3.params.toList args.toList ds p := hA0
  rw [Tryd.params3] at hA hval
  obtain ⟨v0, vs0, d0, ds0, p0, q0, hargs, rfl, rfl, h0, r0⟩ := trodAll_cons hA
  obtain ⟨rfl, rfl, rfl⟩ := trodAll_nil r0
  obtain rfl : args = #[v0] := by cases args; simp_all
  obtain ⟨rfl, rfl⟩ := trodVars_none hV
  obtain ⟨t0, rfl, rfl, rfl, w0⟩ := open_string Tryd.underlying9 (hval 0 9 v0 rfl rfl) h0
  clear hA0
  simp only [List.append_nil] at hW'
  have hwalk := walk t0 W w0 hE
  refine hwalk.mono fun e W' ⟨he, hg⟩ => ?_
  subst he
  exact ⟨_, rfl, _, _, _, [], _, [], hW', trodAll_mk1 (shut_bool Tryd.underlying4 _), (trodAll_cons_mk (shut_string Tryd.underlying9 w0) trodAll_mk0), rfl, hg.frame _, fun h => by cases h⟩
theorem reads (os : Os) {H : Type} (enc : TypeId × Value → H) : ∃ places, DataW.whole enc Tryd.prog ((laidW os).forCall (fun _ _ => 0) ⟨#[], #[.string ⟨#[]⟩], []⟩).memory Tryd.f3.params.toList Rows.parserTokensSpec.vars false #[(.string ⟨#[]⟩ : Value)].toList 8 = some ([.lit (.string [])], [], places) :=
  ⟨[], by kernel_rfl⟩
set_option maxRecDepth 100000 in
theorem lifted (os : Os) (started : os.Started) (H : Type) (enc : TypeId × Value → H) (F : Stop.Interp) :
    ReturnsInHanded {} Tryd.checked os 3 .any ((OpenSpec.ofChange Rows.parserTokensSpec).preRow enc Tryd.prog Tryd.f3 Rows.parserTokensRow.domain false Rows.parserTokensRow.laid) (((OpenSpec.ofChange Rows.parserTokensSpec).at F).post enc Tryd.prog Tryd.f3 false true false false) := by
  obtain ⟨places, hx⟩ := reads os enc
  refine returnsInHanded_of_row (C := Tryd.checked) (s := OpenSpec.ofChange Rows.parserTokensSpec) own started (by kernel_rfl) Tryd.func3
    (witness_row_atRef (enc := enc) (C := Tryd.checked) false (laidW os) #[.string ⟨#[]⟩] (laidW_os os) (vars_ok os _) (heap_ok os _) (by kernel_rfl)
      (OpenSpec.preRow_of_cond 8 hx (by kernel_rfl) (fun k hk => by cases hk) (by kernel_rfl) (laid_met os _))) ?_
  intro W base args ds gs before hval hW _ _ _ hL hsh _
  exact contract H enc W base args ds gs before hval hW (env_of hL hsh)
theorem said : Rows.ParserTokensSaid :=
  OpenClaim.holds_of_cond 3 Tryd.f3 rfl rfl rfl rfl rfl rfl rfl ⟨rfl, rfl, rfl, rfl, rfl⟩ rfl rfl rfl rfl rfl (by kernel_rfl) Tryd.func3 (by kernel_rfl)
    (of_decide_eq_true (by kernel_rfl)) (by unfold Func.isWrapper; first | (rw [if_pos (by decide +kernel)]; kernel_rfl) | (rw [if_neg (by decide +kernel)]; exact ⟨rfl, rfl⟩))
    (fun os started H enc _ F => by rw [OpenClaim.pre_eq_preRow]; exact lifted os started H enc F)
theorem plain (f : FuncId) (fn : Func) (hf : Tryd.pinned.checked.prog.funcNamed "witting/wittinglaw06.ParserTokens" = some f) (hfn : Tryd.pinned.checked.prog.funcs[f]? = some fn) :
    false = Tryd.pinned.checked.prog.looks [] ∧ ∀ (j : Nat) t, fn.params[j]? = some t → Tryd.pinned.checked.prog.wantsStandIn t = false := by
  obtain rfl : f = 3 := Option.some.inj ((show Tryd.prog.funcNamed "witting/wittinglaw06.ParserTokens" = some 3 by kernel_rfl).symm.trans hf) |>.symm
  obtain rfl : fn = Tryd.f3 := (Option.some.inj (Tryd.func3.symm.trans hfn)).symm
  refine ⟨no_looks, fun j t ht => ?_⟩
  rw [Tryd.params3] at ht
  have hm : t ∈ [9] := by simpa using Array.mem_of_getElem? ht
  have hall : ([9].all fun u => !Tryd.prog.wantsStandIn u) = true := by kernel_rfl
  exact (show Tryd.prog.wantsStandIn t = false by simpa using List.all_eq_true.1 hall t hm)
theorem card : Rows.ParserTokensCardSaid :=
  Claim7.holds_tied_plain_at .later [] _ _ _ _ said (fun _ h => by cases h) (by kernel_rfl) (fun _ h => by cases h) parserTokens_row_tie rfl ⟨rfl, rfl⟩ (by kernel_rfl) rfl plain (by kernel_rfl)
#print axioms card
end Go.Proofs.YthhkeobjjeldhaaDoor.parserTokens
