/- Layer 9: BooleanFull: a propositional formula of at most 40 nodes is a tautology exactly if its table is full, and the table of its negation is the complement. -/
import Derived.Test.YtkkkomkljpolbaaDoorNIp
import Derived.Test.YtkkkomkljpolbaaDoorNIv
import Derived.Test.YtkkkomkljpolbaaDoorNIy
namespace Go.Proofs.YtkkkomkljpolbaaDoor.booleanFull
open Go.ChangeShapes Go.WideShapes Go.ChangeAt Go.RowKit Go.Proofs.YtkkkomkljpolbaaDoor Go.Proofs.YtkkkomkljpolbaaDoor.bol Go.Proofs.Ws Go.Maps
open Go.ChangeMaps (open_string shut_string)
set_option maxRecDepth 100000 in
set_option maxHeartbeats 4000000 in
theorem walk (f : List Nd) (A0 : Option Addr) (n0 c0 : Nat) (w : World) (hE : EnvB w w.heap.size) (h0 : NdRow w A0 n0 c0 f) :
    Calls Tryd.prog 11 #[.slice A0 n0 c0] w fun e w' => e = .returned (.bool true) ∧ Below w.heap.size w w' := by
  obtain ⟨hR, _, _, hm⟩ := h0
  have HE := Lib.hid hE
  have HB0 : Hid (Below w.heap.size w w) := Lib.hid (Below.refl _ _)
  by_cases hn : 40 < n0
  · have hd : decide (40 < (n0 : Int)) = true := decide_eq_true (by omega)
    clear hR hn
    go_enter Tryd.func11, Tryd.ntmps11
    go_wp2_with fail
    refine (awake9_any _ ((HE.out.below HB0.out).up HB0.out.size)).mono ?_
    rintro e wz ⟨rfl, hbz⟩
    have HBz := Lib.hid (HB0.out.trans (hbz.mono HB0.out.size))
    clear hbz
    go_wp2
    go_ret
    exact ⟨rfl, HBz.out⟩
  · have hd : decide (40 < (n0 : Int)) = false := decide_eq_false (by omega)
    have HP := Lib.hid (fun (W : World) (h : Below w.heap.size w W) => pTable_any f 6 A0 n0 c0 W ((hE.below h).up h.size) (up8 hR h) hm)
    have HT := Lib.hid (fun (W : World) (h : Below w.heap.size w W) => pTaut_any f A0 n0 c0 W ((hE.below h).up h.size) (up8 hR h) hm)
    have HN := Lib.hid (fun (W : World) (h : Below w.heap.size w W) => pNot_any f A0 n0 c0 W (up8 hR h) hm)
    have hl := hR.nd_len
    by_cases hz : tblE f 6 = 0
    · have hF := full9 (f := f) (by omega) hz
      have hlt : tblV f 6 < 18446744073709551616 := hF.2.2.2.2.1
      rw [hz] at HP
      rw [hF.1, hF.2.1] at HT
      have hgl : (buildF ⟨4, 0, 0, 0, 0, 0⟩ [f]).length ≤ maxLen := by
        rw [hF.2.2.2.2.2]
        unfold maxLen shortT
        split
        · decide
        · omega
      have HQ := Lib.hid (fun (A : Option Addr) (c : Nat) (W : World) (h : Below w.heap.size w W) (hr : Reads W W.heap.size 6 A (buildF ⟨4, 0, 0, 0, 0, 0⟩ [f]).length (nds (buildF ⟨4, 0, 0, 0, 0, 0⟩ [f]))) => pTable_any (buildF ⟨4, 0, 0, 0, 0, 0⟩ [f]) 6 A _ c W ((hE.below h).up h.size) hr hgl)
      rw [hF.2.2.1, hF.2.2.2.1] at HQ
      clear hR hn hE hm hz hl hF hgl
      generalize buildF ⟨4, 0, 0, 0, 0, 0⟩ [f] = g at *
      generalize tblV f 6 = tv at *
      have hx := nB_bits hlt
      have e3 : (((w64 ^^^ tv : Nat) : Int) == bits .xor .u64 IntKind.u64.max (tv : Int)) = true := by rw [hx]; simp
      have HX : Hid (((w64 ^^^ tv : Nat) : Int) = bits .xor .u64 IntKind.u64.max (tv : Int)) := Lib.hid hx.symm
      clear hx e3
      obtain ⟨tb, hb⟩ : ∃ tb : Bool, decide (tv = w64) = tb ∧ (((tv : Nat) : Int) == 18446744073709551615) = tb := ⟨_, rfl, by
        by_cases k : tv = w64
        · rw [k]; decide
        · rw [decide_eq_false k]
          rw [beq_eq_false_iff_ne]
          intro e
          exact k (by unfold w64; omega)⟩
      rw [hb.1] at HT
      have hb2 := hb.2
      clear hb
      generalize (w64 ^^^ tv : Nat) = nv at *
      go_enter Tryd.func11, Tryd.ntmps11
      go_wp2_with fail
      refine (HP.out _ HB0.out).mono ?_
      rintro e w1 ⟨rfl, hb1⟩
      have HB1 : Hid (Below w.heap.size w w1) := Lib.hid (HB0.out.trans (hb1.mono HB0.out.size))
      clear hb1
      go_wp2_with fail
      refine (HT.out _ HB1.out).mono ?_
      rintro e w2 ⟨rfl, hb2⟩
      have HB2 : Hid (Below w.heap.size w w2) := Lib.hid (HB1.out.trans (hb2.mono HB1.out.size))
      clear hb2
      go_wp2_with fail
      refine (HN.out _ HB2.out).mono ?_
      rintro e w3 ⟨A3, c3, rfl, hr3, hb3⟩
      have HB3 : Hid (Below w.heap.size w w3) := Lib.hid (HB2.out.trans (hb3.mono HB2.out.size))
      have HR3 := Lib.hid hr3
      clear hr3
      clear hb3
      go_wp2_with fail
      refine (HQ.out _ _ _ HB3.out HR3.out).mono ?_
      rintro e w4 ⟨rfl, hb4⟩
      have HB4 : Hid (Below w.heap.size w w4) := Lib.hid (HB3.out.trans (hb4.mono HB3.out.size))
      clear hb4
      cases tb
      all_goals
        go_wp2_with fail
        refine (awake9_any _ ((HE.out.below HB4.out).up HB4.out.size)).mono ?_
        rintro e wz ⟨rfl, hbz⟩
        have HBz := Lib.hid (HB4.out.trans (hbz.mono HB4.out.size))
        clear hbz
        go_wp2
        go_ret
        exact ⟨rfl, HBz.out⟩
        all_goals exact absurd HX.out (by assumption)
    · have hz1 : (tblE f 6 != 0) = true := by simpa using hz
      clear hR hn hE hm hl hz
      generalize tblE f 6 = te at *
      go_enter Tryd.func11, Tryd.ntmps11
      go_wp2_with fail
      refine (HP.out _ HB0.out).mono ?_
      rintro e w1 ⟨rfl, hb1⟩
      have HB1 : Hid (Below w.heap.size w w1) := Lib.hid (HB0.out.trans (hb1.mono HB0.out.size))
      clear hb1
      go_wp2_with fail
      refine (awake9_any _ ((HE.out.below HB1.out).up HB1.out.size)).mono ?_
      rintro e wz ⟨rfl, hbz⟩
      have HBz := Lib.hid (HB1.out.trans (hbz.mono HB1.out.size))
      clear hbz
      go_wp2
      go_ret
      exact ⟨rfl, HBz.out⟩
set_option maxRecDepth 100000 in
theorem contract (H : Type) (enc : TypeId × Value → H) (W : World) (base : Nat) (args : Array Value) (ds gs : List (DataW H)) (before : List MemPlace)
    (hval : ∀ (j : Nat) t v, Tryd.f11.params[j]? = some t → args[j]? = some v → Value.okWide Tryd.prog W .any base t v)
    (hW : DataW.Whole enc Tryd.prog Tryd.f11.params.toList Rows.booleanFullSpec.vars false W args.toList ds gs before) (hE : EnvB W W.heap.size) :
    Calls Tryd.prog 11 args W fun e W' => ∃ v, e = .returned v ∧ Rows.booleanFullSpec.post enc Tryd.prog Tryd.f11 false true false false W args v W' := by
  have hW' := hW
  obtain ⟨p, q, hA0, hV, rfl, hfz, hnd⟩ := hW
  have hA : DataW.TrodAll enc Tryd.prog W 0 (fun _ => true) true Tryd.f11.params.toList args.toList ds p := hA0
  rw [Tryd.params11] at hA hval
  obtain ⟨v0, vs0, d0, ds0, p0, q0, hargs, rfl, rfl, h0, r0⟩ := trodAll_cons hA
  obtain ⟨rfl, rfl, rfl⟩ := trodAll_nil r0
  obtain rfl : args = #[v0] := by cases args; simp_all
  obtain ⟨rfl, rfl⟩ := trodVars_none hV
  obtain ⟨af0, nf0, cf0, rfl⟩ := okWide_slice Tryd.underlying22 (hval 0 22 v0 rfl rfl)
  obtain ⟨f0, w0⟩ : ∃ l, NdRow W af0 nf0 cf0 l := by
    obtain ⟨fuel, hf⟩ := h0
    exact open_nodes hf
  have k0 := h0
  have lt0 : ∀ x ∈ p0, x.block < W.heap.size := by obtain ⟨m, hm⟩ := k0; exact DataW.trod_lt m _ _ _ hm
  clear hA0
  have hwalk := walk f0 af0 nf0 cf0 W hE w0
  refine hwalk.mono fun e W' ⟨he, hg⟩ => ?_
  subst he
  exact ⟨_, rfl, _, _, _, [], _, [], hW', trodAll_mk1 (shut_bool Tryd.underlying4 _), (trodAll_cons_mk (Below.trod laidOut (by kernel_rfl) (of_decide_eq_true (by kernel_rfl)) k0 hg lt0) trodAll_mk0), rfl, hg.frame _, fun h => by cases h⟩
theorem reads (os : Os) {H : Type} (enc : TypeId × Value → H) : ∃ places, DataW.whole enc Tryd.prog ((laidW os).forCall (fun _ _ => 0) ⟨#[], #[.slice none 0 0], []⟩).memory Tryd.f11.params.toList Rows.booleanFullSpec.vars false #[(.slice none 0 0 : Value)].toList 8 = some ([.nil], [], places) :=
  ⟨[], by kernel_rfl⟩
set_option maxRecDepth 100000 in
theorem lifted (os : Os) (started : os.Started) (H : Type) (enc : TypeId × Value → H) (F : Stop.Interp) :
    ReturnsInHanded {} Tryd.checked os 11 .any ((OpenSpec.ofChange Rows.booleanFullSpec).preRow enc Tryd.prog Tryd.f11 Rows.booleanFullRow.domain false Rows.booleanFullRow.laid) (((OpenSpec.ofChange Rows.booleanFullSpec).at F).post enc Tryd.prog Tryd.f11 false true false false) := by
  obtain ⟨places, hx⟩ := reads os enc
  refine returnsInHanded_of_row (C := Tryd.checked) (s := OpenSpec.ofChange Rows.booleanFullSpec) own started (by kernel_rfl) Tryd.func11
    (witness_row_atRef (enc := enc) (C := Tryd.checked) false (laidW os) #[.slice none 0 0] (laidW_os os) (vars_ok os _) (heap_ok os _) (by kernel_rfl)
      (OpenSpec.preRow_of_cond 8 hx (by kernel_rfl) (fun k hk => by cases hk) (by kernel_rfl) (laid_met os _))) ?_
  intro W base args ds gs before hval hW _ _ _ hL hsh _
  exact contract H enc W base args ds gs before hval hW (env_of hL)
theorem said : Rows.BooleanFullSaid :=
  OpenClaim.holds_of_cond 11 Tryd.f11 rfl rfl rfl rfl rfl rfl rfl ⟨rfl, rfl, rfl, rfl, rfl⟩ rfl rfl rfl rfl rfl (by kernel_rfl) Tryd.func11 (by kernel_rfl)
    (of_decide_eq_true (by kernel_rfl)) (by unfold Func.isWrapper; first | (rw [if_pos (by decide +kernel)]; kernel_rfl) | (rw [if_neg (by decide +kernel)]; exact ⟨rfl, rfl⟩))
    (fun os started H enc _ F => by rw [OpenClaim.pre_eq_preRow]; exact lifted os started H enc F)
theorem plain (f : FuncId) (fn : Func) (hf : Tryd.pinned.checked.prog.funcNamed "witting/wittinglaw09.BooleanFull" = some f) (hfn : Tryd.pinned.checked.prog.funcs[f]? = some fn) :
    false = Tryd.pinned.checked.prog.looks [] ∧ ∀ (j : Nat) t, fn.params[j]? = some t → Tryd.pinned.checked.prog.wantsStandIn t = false := by
  obtain rfl : f = 11 := Option.some.inj ((show Tryd.prog.funcNamed "witting/wittinglaw09.BooleanFull" = some 11 by kernel_rfl).symm.trans hf) |>.symm
  obtain rfl : fn = Tryd.f11 := (Option.some.inj (Tryd.func11.symm.trans hfn)).symm
  refine ⟨no_looks, fun j t ht => ?_⟩
  rw [Tryd.params11] at ht
  have hm : t ∈ [22] := by simpa using Array.mem_of_getElem? ht
  have hall : ([22].all fun u => !Tryd.prog.wantsStandIn u) = true := by kernel_rfl
  exact (show Tryd.prog.wantsStandIn t = false by simpa using List.all_eq_true.1 hall t hm)
theorem card : Rows.BooleanFullCardSaid :=
  Claim7.holds_tied_plain_at .later [] _ _ _ _ said (fun _ h => by cases h) (by kernel_rfl) (fun _ h => by cases h) booleanFull_row_tie rfl ⟨rfl, rfl⟩ (by kernel_rfl) rfl plain (by kernel_rfl)
#print axioms card
end Go.Proofs.YtkkkomkljpolbaaDoor.booleanFull
