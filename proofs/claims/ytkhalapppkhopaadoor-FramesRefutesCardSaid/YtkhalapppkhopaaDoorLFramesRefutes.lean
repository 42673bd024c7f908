/- Layer 15: FramesRefutes: the set that Counter returns makes the axiom false at the world, and there is none exactly if the relation has the property. -/
import Derived.Test.YtkhalapppkhopaaDoorNFp
import Derived.Test.YtkhalapppkhopaaDoorNFq
namespace Go.Proofs.YtkhalapppkhopaaDoor.framesRefutes
open Go.ChangeShapes Go.WideShapes Go.ChangeAt Go.RowKit Go.Proofs.YtkhalapppkhopaaDoor Go.Proofs.YtkhalapppkhopaaDoor.fra Go.Proofs.Ws
open Go.ChangeMaps (open_string shut_string)
theorem shr_clear (v k : Nat) (hlt : v < 18446744073709551616) (h : v.testBit k = false) : (bits .and .u64 ((v : Int) / 2 ^ k) 1 == 0) = true := by
  have e : ((v : Int) / 2 ^ k) = ((v / 2 ^ k : Nat) : Int) := by simp
  have h2 : v / 2 ^ k % 2 = 0 := by
    rw [Nat.testBit_eq_decide_div_mod_eq, decide_eq_false_iff_not] at h
    omega
  rw [e]
  by_cases hv : v / 2 ^ k < 18446744073709551616
  · rw [show (1 : Int) = ((1 : Nat) : Int) from rfl, u64_and_nat _ 1 hv (by decide), Nat.and_one_is_mod, h2]; rfl
  · exact absurd (Nat.lt_of_le_of_lt (Nat.div_le_self _ _) hlt) hv
set_option maxRecDepth 100000
set_option maxHeartbeats 16000000 in
theorem walk (l : List Nat) (A : Option Addr) (n c : Nat) (p : Int) (w : World) (hR : Reads w w.heap.size 1 A n (us l)) (hw : Words l) (hm : n ≤ maxLen) (hT : Tab w) :
    Calls Tryd.prog 6 #[.slice A n c, .int .i64 p] w fun e w' => e = .returned (.bool true) ∧ Below w.heap.size w w' := by
  have hl := hR.word_len
  have HAW : Hid (∀ W, Below w.heap.size w W → Calls Tryd.prog 11 #[] W fun e w' => e = .returned (.bool true) ∧ Below W.heap.size W w') := Lib.hid (fun W hb => awake_any W (hT.below hb))
  have HC := Lib.hid (fun W (hb : Below w.heap.size w W) => check_any n l A n c W.heap.size W ((hR.below hb).more hb.size) hw hm)
  by_cases hn : n ≤ 12
  case neg =>
    have d1 : decide ((12 : Int) < (n : Int)) = true := decide_eq_true (by omega)
    clear hR hw hm hT hn HC
    go_enter Tryd.func6, Tryd.ntmps6
    go_wp2_with fail
    refine (HAW.out _ (Below.refl w.heap.size w)).mono ?_
    rintro e w9 ⟨rfl, hb9⟩
    have HB9 := Lib.hid ((Below.refl w.heap.size w).trans (hb9.mono (Below.refl w.heap.size w).size))
    clear hb9
    go_wp2
    go_ret
    exact ⟨rfl, HB9.out⟩
  have d1 : decide ((12 : Int) < (n : Int)) = false := decide_eq_false (by omega)
  by_cases h0 : relErr n l = 0
  case neg =>
    have d2 : (relErr n l != 0) = true := by rw [bne_iff_ne]; exact h0
    generalize relErr n l = er at *
    clear hR hw hm hT hn h0
    go_enter Tryd.func6, Tryd.ntmps6
    go_wp2_with fail
    refine (HC.out _ (Below.refl w.heap.size w)).mono ?_
    rintro e w3 ⟨rfl, rfl⟩
    go_wp2_with fail
    refine (HAW.out _ (Below.refl w.heap.size w)).mono ?_
    rintro e w9 ⟨rfl, hb9⟩
    have HB9 := Lib.hid ((Below.refl w.heap.size w).trans (hb9.mono (Below.refl w.heap.size w).size))
    clear hb9
    go_wp2
    go_ret
    exact ⟨rfl, HB9.out⟩
  rw [h0] at HC
  by_cases hp1 : p < 1
  case pos =>
    have d2 : decide (p < 1) = true := decide_eq_true hp1
    clear hR hw hm hT hn h0 hp1
    go_enter Tryd.func6, Tryd.ntmps6
    go_wp2_with fail
    refine (HC.out _ (Below.refl w.heap.size w)).mono ?_
    rintro e w3 ⟨rfl, rfl⟩
    go_wp2_with fail
    refine (HAW.out _ (Below.refl w.heap.size w)).mono ?_
    rintro e w9 ⟨rfl, hb9⟩
    have HB9 := Lib.hid ((Below.refl w.heap.size w).trans (hb9.mono (Below.refl w.heap.size w).size))
    clear hb9
    go_wp2
    go_ret
    exact ⟨rfl, HB9.out⟩
  have d2 : decide (p < 1) = false := decide_eq_false hp1
  by_cases hp5 : 5 < p
  case pos =>
    have d3 : decide (5 < p) = true := decide_eq_true hp5
    clear hR hw hm hT hn h0 hp1 hp5
    go_enter Tryd.func6, Tryd.ntmps6
    go_wp2_with fail
    refine (HC.out _ (Below.refl w.heap.size w)).mono ?_
    rintro e w3 ⟨rfl, rfl⟩
    go_wp2_with fail
    refine (HAW.out _ (Below.refl w.heap.size w)).mono ?_
    rintro e w9 ⟨rfl, hb9⟩
    have HB9 := Lib.hid ((Below.refl w.heap.size w).trans (hb9.mono (Below.refl w.heap.size w).size))
    clear hb9
    go_wp2
    go_ret
    exact ⟨rfl, HB9.out⟩
  have d3 : decide (5 < p) = false := decide_eq_false hp5
  have hp : 1 ≤ p ∧ p ≤ 5 := by omega
  have HK := Lib.hid (pCnt_any l A n c p w hR hw hm hT)
  unfold GivesC at HK
  have HQ := Lib.hid (fun W (hb : Below w.heap.size w W) => hasQ_any l A n c p W ((hR.below hb).more hb.size) hw hm (hT.below hb))
  have HH := Lib.hid (fun W (s : Nat) (hs : s < 18446744073709551616) (hb : Below w.heap.size w W) => holds_any l A n c s W ((hR.below hb).more hb.size) hw h0 hs p)
  have HA := Lib.hid (fun W => ref2All_any n W (by omega))
  have HCV : Hid (∀ a s r, CntV n p l a s r → (HasQ n l p ∧ a = 0 ∧ s = 0 ∧ r = 6) ∨ (¬ HasQ n l p ∧ ∃ x : List Nat, x.getD 0 0 < n ∧ setV p l x < 2 ^ n ∧ (axV n p l (setV p l x)).testBit (x.getD 0 0) = false ∧ a = ((x.getD 0 0 : Nat) : Int) ∧ s = ((setV p l x : Nat) : Int) ∧ r = 0)) := Lib.hid (fun a s r h => by
    rcases h with h | h | h | h
    · exact absurd h0 h.1
    · omega
    · exact .inl ⟨⟨h0, h.2.2.1⟩, h.2.2.2⟩
    · obtain ⟨_, _, h1, x, hx, h2, h3, h4⟩ := h
      have hr := refutes h0 hl p hp x hx.dig hx.shows
      have hd0 : x.getD 0 0 < n := hx.dig.at_ (k := 0) (by unfold lenP; split <;> first | decide | (split <;> decide))
      refine .inr ⟨fun hq => h1 hq.2, x, hd0, hr.1, ?_, h2, h3, h4⟩
      have h5 := (axV_bit h0 hl p (setV p l x) (x.getD 0 0) hd0 (Nat.lt_of_lt_of_le hr.1 (pow_le64 (by omega)))).1
      cases e : (axV n p l (setV p l x)).testBit (x.getD 0 0) with
      | false => rfl
      | true => exact absurd (h5 e) hr.2)
  have HN := Lib.hid hn
  have HZ := Lib.hid h0
  have HLN := Lib.hid hl
  clear hR hw hm hT h0 hp1 hp5 hp hl hn
  go_enter Tryd.func6, Tryd.ntmps6
  go_wp2_with fail
  refine (HC.out _ (Below.refl w.heap.size w)).mono ?_
  rintro e w3 ⟨rfl, rfl⟩
  go_wp2_with fail
  refine (HK.out).mono ?_
  rintro e w4 ⟨⟨a, s, r, rfl, hcv⟩, hb⟩
  clear d1 d2 d3
  have HB := Lib.hid hb
  clear hb
  rcases HCV.out _ _ _ hcv with ⟨hq, rfl, rfl, rfl⟩ | ⟨hq, x, hx0, hsl, hbit, rfl, rfl, rfl⟩
  · have e : qB (HasQ n l p) = true := (qB_iff _).2 hq
    rw [e] at HQ
    clear e hq hcv
    go_wp2_with fail
    refine (HQ.out _ HB.out).mono ?_
    rintro e w5 ⟨rfl, hb⟩
    have HB5 := Lib.hid (HB.out.trans (hb.mono HB.out.size))
    clear hb
    go_wp2_with fail
    refine (HAW.out _ HB5.out).mono ?_
    rintro e w9 ⟨rfl, hb9⟩
    have HB9 := Lib.hid (HB5.out.trans (hb9.mono HB5.out.size))
    clear hb9
    go_wp2
    go_ret
    exact ⟨rfl, HB9.out⟩
  · have e : qB (HasQ n l p) = false := qB_false hq
    rw [e] at HQ
    clear e hq hcv
    have HX0 := Lib.hid hx0
    have hs64 : setV p l x < 18446744073709551616 := Nat.lt_of_lt_of_le hsl (pow_le64 (by have := HN.out; omega))
    have HH2 := Lib.hid (fun W hb => HH.out W (setV p l x) hs64 hb)
    have r1 : (bits .andNot .u64 ((setV p l x : Nat) : Int) (allV n : Int) != 0) = false := by
      rw [outside_in (setV p l x) n hs64 (by have := HN.out; omega), Int.toNat_natCast, decide_eq_true hsl]
      rfl
    have hav : axV n p l (setV p l x) < 18446744073709551616 := Nat.lt_of_lt_of_le (axV_lt HZ.out HLN.out p _ hsl) (pow_le64 (by have := HN.out; omega))
    have hx64 : x.getD 0 0 < 64 := by have := HN.out; omega
    have r2 : (bits .and .u64 (((axV n p l (setV p l x) : Nat) : Int) / 2 ^ (x.getD 0 0)) 1 == 0) = true := shr_clear _ _ hav hbit
    have d4 : decide (((x.getD 0 0 : Nat) : Int) < 0) = false := decide_eq_false (by omega)
    have d5 : decide ((n : Int) ≤ ((x.getD 0 0 : Nat) : Int)) = false := decide_eq_false (by omega)
    have hw6 : IntKind.u64.wrap ((x.getD 0 0 : Nat) : Int) = ((x.getD 0 0 : Nat) : Int) := by rw [IntKind.wrap_u64]; omega
    clear hsl hs64 hbit hx0 HH hav
    generalize axV n p l (setV p l x) = av at *
    generalize setV p l x = sv at *
    generalize x.getD 0 0 = x0 at *
    generalize allV n = va at *
    go_wp2_with fail
    refine (HA.out _).mono ?_
    rintro e w5 ⟨rfl, rfl⟩
    go_wp2_with fail
    refine (HQ.out _ HB.out).mono ?_
    rintro e w5 ⟨rfl, hb⟩
    have HB5 := Lib.hid (HB.out.trans (hb.mono HB.out.size))
    clear hb
    go_wp2_with fail
    refine (HH2.out _ HB5.out).mono ?_
    rintro e w6 ⟨rfl, hb⟩
    have HB6 := Lib.hid (HB5.out.trans (hb.mono HB5.out.size))
    clear hb
    go_wp2_with fail
    refine (HAW.out _ HB6.out).mono ?_
    rintro e w9 ⟨rfl, hb9⟩
    have HB9 := Lib.hid (HB6.out.trans (hb9.mono HB6.out.size))
    clear hb9
    go_wp2
    go_ret
    exact ⟨rfl, HB9.out⟩
set_option maxRecDepth 100000 in
theorem contract (H : Type) (enc : TypeId × Value → H) (W : World) (base : Nat) (args : Array Value) (ds gs : List (DataW H)) (before : List MemPlace)
    (hval : ∀ (j : Nat) t v, Tryd.f6.params[j]? = some t → args[j]? = some v → Value.okWide Tryd.prog W .any base t v)
    (hW : DataW.Whole enc Tryd.prog Tryd.f6.params.toList Rows.framesRefutesSpec.vars false W args.toList ds gs before) (hE : Tab W) :
    Calls Tryd.prog 6 args W fun e W' => ∃ v, e = .returned v ∧ Rows.framesRefutesSpec.post enc Tryd.prog Tryd.f6 false true false false W args v W' := by
  have hW' := hW
  obtain ⟨p, q, hA0, hV, rfl, hfz, hnd⟩ := hW
  have hA : DataW.TrodAll enc Tryd.prog W 0 (fun _ => true) true Tryd.f6.params.toList args.toList ds p := hA0
  rw [Tryd.params6] at hA hval
  obtain ⟨v0, vs0, d0, ds0, p0, q0, hargs, rfl, rfl, h0, r0⟩ := trodAll_cons hA
  obtain ⟨v1, vs1, d1, ds1, p1, q1, rfl, rfl, rfl, h1, r1⟩ := trodAll_cons r0
  obtain ⟨rfl, rfl, rfl⟩ := trodAll_nil r1
  obtain rfl : args = #[v0, v1] := by cases args; simp_all
  obtain ⟨rfl, rfl⟩ := trodVars_none hV
  obtain ⟨A0, n0, c0, l0, rfl, w0⟩ : ∃ A n c l, v0 = .slice A n c ∧ WRow W A n c l := by
    obtain ⟨fuel, hf⟩ := h0
    have hv9 := hval 0 22 v0 rfl rfl
    obtain ⟨A9, n9, c9, rfl⟩ := okWide_slice Tryd.underlying22 hv9
    exact open_words hf
  have k0 := h0
  have lt0 : ∀ x ∈ p0, x.block < W.heap.size := by obtain ⟨m, hm⟩ := k0; exact DataW.trod_lt m _ _ _ hm
  obtain ⟨g1, rfl, rfl, rfl, w1⟩ := open_int Tryd.underlying3 (hval 1 3 v1 rfl rfl) h1
  clear hA0
  simp only [List.append_nil] at hW'
  have hwalk := walk l0 A0 n0 c0 g1 W w0.1 w0.2.1 w0.2.2.2 hE
  refine hwalk.mono fun e W' ⟨he, hg⟩ => ?_
  subst he
  exact ⟨_, rfl, _, _, _, [], _, [], hW', trodAll_mk1 (shut_bool Tryd.underlying4 _), (trodAll_cons_mk (Below.trod laidOut (by kernel_rfl) (of_decide_eq_true (by kernel_rfl)) k0 hg lt0) (trodAll_cons_mk (shut_int Tryd.underlying3 w1) trodAll_mk0)), rfl, hg.frame _, fun h => by cases h⟩
theorem reads (os : Os) {H : Type} (enc : TypeId × Value → H) : ∃ places, DataW.whole enc Tryd.prog ((laidW os).forCall (fun _ _ => 0) ⟨#[], #[.slice none 0 0, .int .i64 0], []⟩).memory Tryd.f6.params.toList Rows.framesRefutesSpec.vars false #[(.slice none 0 0 : Value), (.int .i64 0 : Value)].toList 8 = some ([.nil, .lit (.int .i64 0)], [], places) :=
  ⟨[], by kernel_rfl⟩
set_option maxRecDepth 100000 in
theorem lifted (os : Os) (started : os.Started) (H : Type) (enc : TypeId × Value → H) (F : Stop.Interp) :
    ReturnsInHanded {} Tryd.checked os 6 .any ((OpenSpec.ofChange Rows.framesRefutesSpec).preRow enc Tryd.prog Tryd.f6 Rows.framesRefutesRow.domain false Rows.framesRefutesRow.laid) (((OpenSpec.ofChange Rows.framesRefutesSpec).at F).post enc Tryd.prog Tryd.f6 false true false false) := by
  obtain ⟨places, hx⟩ := reads os enc
  refine returnsInHanded_of_row (C := Tryd.checked) (s := OpenSpec.ofChange Rows.framesRefutesSpec) own started (by kernel_rfl) Tryd.func6
    (witness_row_atRef (enc := enc) (C := Tryd.checked) false (laidW os) #[.slice none 0 0, .int .i64 0] (laidW_os os) (vars_ok os _) (heap_ok os _) (by kernel_rfl)
      (OpenSpec.preRow_of_cond 8 hx (by kernel_rfl) (fun k hk => by cases hk) (by kernel_rfl) (laid_met os _))) ?_
  intro W base args ds gs before hval hW _ _ _ hL hsh _
  exact contract H enc W base args ds gs before hval hW (env_of hL)
theorem said : Rows.FramesRefutesSaid :=
  OpenClaim.holds_of_cond 6 Tryd.f6 rfl rfl rfl rfl rfl rfl rfl ⟨rfl, rfl, rfl, rfl, rfl⟩ rfl rfl rfl rfl rfl (by kernel_rfl) Tryd.func6 (by kernel_rfl)
    (of_decide_eq_true (by kernel_rfl)) (by unfold Func.isWrapper; first | (rw [if_pos (by decide +kernel)]; kernel_rfl) | (rw [if_neg (by decide +kernel)]; exact ⟨rfl, rfl⟩))
    (fun os started H enc _ F => by rw [OpenClaim.pre_eq_preRow]; exact lifted os started H enc F)
theorem plain (f : FuncId) (fn : Func) (hf : Tryd.pinned.checked.prog.funcNamed "witting/wittinglaw15.FramesRefutes" = some f) (hfn : Tryd.pinned.checked.prog.funcs[f]? = some fn) :
    false = Tryd.pinned.checked.prog.looks [] ∧ ∀ (j : Nat) t, fn.params[j]? = some t → Tryd.pinned.checked.prog.wantsStandIn t = false := by
  obtain rfl : f = 6 := Option.some.inj ((show Tryd.prog.funcNamed "witting/wittinglaw15.FramesRefutes" = some 6 by kernel_rfl).symm.trans hf) |>.symm
  obtain rfl : fn = Tryd.f6 := (Option.some.inj (Tryd.func6.symm.trans hfn)).symm
  refine ⟨no_looks, fun j t ht => ?_⟩
  rw [Tryd.params6] at ht
  have hm : t ∈ [22, 3] := by simpa using Array.mem_of_getElem? ht
  have hall : ([22, 3].all fun u => !Tryd.prog.wantsStandIn u) = true := by kernel_rfl
  exact (show Tryd.prog.wantsStandIn t = false by simpa using List.all_eq_true.1 hall t hm)
theorem card : Rows.FramesRefutesCardSaid :=
  Claim7.holds_tied_plain_at .later [] _ _ _ _ said (fun _ h => by cases h) (by kernel_rfl) (fun _ h => by cases h) framesRefutes_row_tie rfl ⟨rfl, rfl⟩ (by kernel_rfl) rfl plain (by kernel_rfl)
#print axioms card
end Go.Proofs.YtkhalapppkhopaaDoor.framesRefutes
