/- ParserParses (P6.4): the program's Parse agrees with the reference: the formula, the position and the error. Conditions: the package variables that the row lists hold what the program's text lays in them. -/
import Derived.Test.YthhkeobjjeldhaaGreatDoorJl
import Derived.Test.YthhkeobjjeldhaaGreatDoorJm
import Derived.Test.YthhkeobjjeldhaaGreatDoorYl
namespace Go.Proofs.YthhkeobjjeldhaaGreatDoor.parserParses
open Go.ChangeShapes Go.WideShapes Go.ChangeAt Go.RowKit Go.Proofs.YthhkeobjjeldhaaGreatDoor Go.Proofs.YthhkeobjjeldhaaGreatDoor.par Go.Proofs.Ws Go.Maps
open Go.ChangeMaps (open_string shut_string)
set_option maxRecDepth 100000 in
set_option maxHeartbeats 8000000 in
theorem walk (a0 : Option Addr) (n0 c0 : Nat) (a1 : Option Addr) (n1 c1 : Nat) (a2 : Option Addr) (n2 c2 : Nat) (A F X : List ByteArray) (t : ByteArray) (w : World) (s0 : SL0 w a0 n0 c0 A) (s1 : SL0 w a1 n1 c1 F) (s2 : SL0 w a2 n2 c2 X) (ht : t.size ≤ maxLen) (hE : EnvS w) :
    Calls Tryz.prog 3 #[.agg #[.slice a0 n0 c0, .slice a1 n1 c1, .slice a2 n2 c2], .string t] w fun e w' => e = .returned (.bool true) ∧ Below w.heap.size w w' := by
  have HX := Lib.hid (@boxed w a0 a1 a2 n0 c0 n1 c1 n2 c2 24)
  have HG : Hid (∀ W, Below (w.heap.size + 1) (w.alloc (.cells #[.slice a0 n0 c0, .slice a1 n1 c1, .slice a2 n2 c2] 24)) W → EnvS W ∧ (SLw W W.heap.size a0 n0 c0 A ∧ SLw W W.heap.size a1 n1 c1 F ∧ SLw W W.heap.size a2 n2 c2 X) ∧ Below w.heap.size w W ∧ w.heap.size + 1 ≤ W.heap.size ∧ (fewB A F X t = true → SigR W W.heap.size (.agg #[.slice a0 n0 c0, .slice a1 n1 c1, .slice a2 n2 c2]) A F X)) := Lib.hid (fun W hW => by
    have h1 : Below w.heap.size w W := ((Below.refl _ w).alloc (Nat.le_refl _) _).trans (hW.mono (by omega))
    have m : ∀ {a : Option Addr} {n c : Nat} {l : List ByteArray}, SL0 w a n c l → SLw W W.heap.size a n c l := fun h => ⟨(h.1.below h1).more h1.size, h.2.2.2.1, h.2.2.1⟩
    have q : ∀ {a : Option Addr} {n c : Nat} {l : List ByteArray}, SL0 w a n c l → n ≤ 20 → SL W W.heap.size a n c l := fun h hn => ((h.small hn).below h1).more h1.size
    refine ⟨hE.below h1, ⟨m s0, m s1, m s2⟩, h1, by have := hW.size; simpa using this, fun hf => ?_⟩
    unfold fewB at hf
    simp only [Bool.and_eq_true, decide_eq_true_eq] at hf
    have l0 := s0.1.str_len
    have l1 := s1.1.str_len
    have l2 := s2.1.str_len
    exact ⟨_, _, _, _, _, _, _, _, _, rfl, q s0 (by omega), q s1 (by omega), q s2 (by omega)⟩)
  have HLN : Hid (A.length = n0 ∧ F.length = n1) := Lib.hid ⟨s0.1.str_len, s1.1.str_len⟩
  have HFW := Lib.hid (fun W (hW : Below (w.heap.size + 1) (w.alloc (.cells #[.slice a0 n0 c0, .slice a1 n1 c1, .slice a2 n2 c2] 24)) W) => kFew_any a0 n0 c0 a1 n1 c1 a2 n2 c2 A F X t W (HG.out W hW).2.1.1 (HG.out W hW).2.1.2.1 (HG.out W hW).2.1.2.2 ht)
  have HTM : Hid (t.size ≤ maxLen) := Lib.hid ht
  have HB0 := Lib.hid (Below.refl (w.heap.size + 1) (w.alloc (.cells #[.slice a0 n0 c0, .slice a1 n1 c1, .slice a2 n2 c2] 24)))
  clear hE s0 s1 s2 ht
  by_cases hfew : fewB A F X t = true
  · have HFT := Lib.hid hfew
    rw [hfew] at HFW
    clear hfew
    go_enter Tryz.func3, Tryz.ntmps3
    go_wp2_with fail
    refine (HFW.out _ HB0.out).mono ?_
    rintro e w1 ⟨rfl, hb⟩
    have HB : Hid (Below (w.heap.size + 1) (w.alloc (.cells #[.slice a0 n0 c0, .slice a1 n1 c1, .slice a2 n2 c2] 24)) w1) := Lib.hid (HB0.out.trans (hb.mono (HG.out _ HB0.out).2.2.2.1))
    obtain ⟨q0, q1, q2⟩ := HX.out w1 HB.out
    clear hb HFW HB0
    have HPT := Lib.hid (kParse_own a0 n0 c0 a1 n1 c1 a2 n2 c2 A F X t w1 ((HG.out _ HB.out).2.2.2.2 HFT.out) (HG.out _ HB.out).1 HTM.out)
    have HRT : Hid (∀ W, Below (w.heap.size + 1) (w.alloc (.cells #[.slice a0 n0 c0, .slice a1 n1 c1, .slice a2 n2 c2] 24)) W → _) := Lib.hid (fun W hW => yParse_any a0 n0 c0 a1 n1 c1 a2 n2 c2 A F X t W ((HG.out _ hW).2.2.2.2 HFT.out) (HG.out _ hW).1 HTM.out)
    have HLL : Hid ((parseV A F X t).nodes.length ≤ maxLen) := Lib.hid (by have := parseV_len A F X t; unfold maxLen; omega)
    generalize parseV A F X t = P at *
    obtain ⟨l, po, er⟩ := P
    dsimp only at HPT HRT HLL
    generalize hL : l.length = L at *
    go_wp2_with fail
    refine (HPT.out).mono ?_
    rintro e w2 ⟨A1, k1, rfl, hO, hb⟩
    have HR1 := Lib.hid (Reads.of_own hO)
    have HB2 : Hid (Below (w.heap.size + 1) (w.alloc (.cells #[.slice a0 n0 c0, .slice a1 n1 c1, .slice a2 n2 c2] 24)) w2) := Lib.hid (HB.out.trans (hb.mono (HG.out _ HB.out).2.2.2.1))
    obtain ⟨q0', q1', q2'⟩ := HX.out w2 HB2.out
    clear hb hO HPT q0 q1 q2 HB
    go_wp2_with fail
    refine (HRT.out w2 HB2.out).mono ?_
    rintro e w3 ⟨A2, k2, rfl, hR, hb⟩
    have HR2 := Lib.hid hR
    have HR3 := Lib.hid ((HR1.out.below hb).more hb.size)
    have HB3 : Hid (Below (w.heap.size + 1) (w.alloc (.cells #[.slice a0 n0 c0, .slice a1 n1 c1, .slice a2 n2 c2] 24)) w3) := Lib.hid (HB2.out.trans (hb.mono (HG.out _ HB2.out).2.2.2.1))
    have HQ := Lib.hid (rSameNodes_any l l A1 A2 L L k1 k2 w3 HR3.out HR2.out HLL.out HLL.out)
    rw [decide_eq_true rfl] at HQ
    clear hb hR HRT HR1 HR2 HR3 q0' q1' q2' HB2
    go_wp2_with fail
    refine (HQ.out).mono ?_
    rintro e w4 ⟨rfl, hb⟩
    have HB4 : Hid (Below (w.heap.size + 1) (w.alloc (.cells #[.slice a0 n0 c0, .slice a1 n1 c1, .slice a2 n2 c2] 24)) w4) := Lib.hid (HB3.out.trans (hb.mono (HG.out _ HB3.out).2.2.2.1))
    clear hb HQ
    go_wp2_with fail
    refine (awake_any _ (HG.out _ HB4.out).1).mono ?_
    rintro e w5 ⟨rfl, hb⟩
    have HB5 : Hid (Below (w.heap.size + 1) (w.alloc (.cells #[.slice a0 n0 c0, .slice a1 n1 c1, .slice a2 n2 c2] 24)) w5) := Lib.hid (HB4.out.trans (hb.mono (HG.out _ HB4.out).2.2.2.1))
    clear hb
    go_wp2
    go_ret
    exact ⟨rfl, (HG.out _ HB5.out).2.2.1⟩
  · have HFT : Hid (fewB A F X t = false) := Lib.hid (by simpa using hfew)
    rw [HFT.out] at HFW
    clear hfew
    go_enter Tryz.func3, Tryz.ntmps3
    go_wp2_with fail
    refine (HFW.out _ HB0.out).mono ?_
    rintro e w1 ⟨rfl, hb⟩
    have HB : Hid (Below (w.heap.size + 1) (w.alloc (.cells #[.slice a0 n0 c0, .slice a1 n1 c1, .slice a2 n2 c2] 24)) w1) := Lib.hid (HB0.out.trans (hb.mono (HG.out _ HB0.out).2.2.2.1))
    clear hb HFW HB0
    go_wp2_with fail
    refine (awake_any _ (HG.out _ HB.out).1).mono ?_
    rintro e w2 ⟨rfl, hb⟩
    have HB2 : Hid (Below (w.heap.size + 1) (w.alloc (.cells #[.slice a0 n0 c0, .slice a1 n1 c1, .slice a2 n2 c2] 24)) w2) := Lib.hid (HB.out.trans (hb.mono (HG.out _ HB.out).2.2.2.1))
    clear hb
    go_wp2
    go_ret
    exact ⟨rfl, (HG.out _ HB2.out).2.2.1⟩
set_option maxRecDepth 100000 in
theorem contract (H : Type) (enc : TypeId × Value → H) (W : World) (base : Nat) (args : Array Value) (ds gs : List (DataW H)) (before : List MemPlace)
    (hval : ∀ (j : Nat) t v, Tryz.f3.params[j]? = some t → args[j]? = some v → Value.okWide Tryz.prog W .any base t v)
    (hW : DataW.Whole enc Tryz.prog Tryz.f3.params.toList Rows.parserParsesSpec.vars false W args.toList ds gs before) (hE : EnvS W) :
    Calls Tryz.prog 3 args W fun e W' => ∃ v, e = .returned v ∧ Rows.parserParsesSpec.post enc Tryz.prog Tryz.f3 false true false false W args v W' := by
  have hW' := hW
  obtain ⟨p, q, hA0, hV, rfl, hfz, hnd⟩ := hW
  have hA : DataW.TrodAll enc Tryz.prog W 0 (fun _ => true) true Tryz.f3.params.toList args.toList ds p := hA0
  rw [Tryz.params3] at hA hval
  obtain ⟨v0, vs0, d0, ds0, p0, q0, hargs, rfl, rfl, h0, r0⟩ := trodAll_cons hA
  obtain ⟨v1, vs1, d1, ds1, p1, q1, rfl, rfl, rfl, h1, r1⟩ := trodAll_cons r0
  obtain ⟨rfl, rfl, rfl⟩ := trodAll_nil r1
  obtain rfl : args = #[v0, v1] := by cases args; simp_all
  obtain ⟨rfl, rfl⟩ := trodVars_none hV
  obtain ⟨a0, n0, c0, a1, n1, c1, a2, n2, c2, A, F, X, rfl, s0, s1, s2⟩ := open_sig (hval 0 24 v0 rfl rfl) h0
  have k0 := h0
  have lt0 : ∀ x ∈ p0, x.block < W.heap.size := by obtain ⟨m, hm⟩ := k0; exact DataW.trod_lt m _ _ _ hm
  obtain ⟨t1, rfl, rfl, rfl, w1⟩ := open_string Tryz.underlying9 (hval 1 9 v1 rfl rfl) h1
  clear hA0
  simp only [List.append_nil] at hW'
  have hwalk := walk a0 n0 c0 a1 n1 c1 a2 n2 c2 A F X t1 W s0 s1 s2 w1 hE
  refine hwalk.mono fun e W' ⟨he, hg⟩ => ?_
  subst he
  exact ⟨_, rfl, _, _, _, [], _, [], hW', trodAll_mk1 (shut_bool Tryz.underlying4 _), (trodAll_cons_mk (Below.trod laidOut (by kernel_rfl) (of_decide_eq_true (by kernel_rfl)) k0 hg lt0) (trodAll_cons_mk (shut_string Tryz.underlying9 w1) trodAll_mk0)), rfl, hg.frame _, fun h => by cases h⟩
theorem reads (os : Os) {H : Type} (enc : TypeId × Value → H) : ∃ places, DataW.whole enc Tryz.prog ((laidW os).forCall (fun _ _ => 0) ⟨#[], #[.agg #[.slice none 0 0, .slice none 0 0, .slice none 0 0], .string ⟨#[]⟩], []⟩).memory Tryz.f3.params.toList Rows.parserParsesSpec.vars false #[(.agg #[.slice none 0 0, .slice none 0 0, .slice none 0 0] : Value), (.string ⟨#[]⟩ : Value)].toList 8 = some ([.agg [.nil, .nil, .nil], .lit (.string [])], [], places) :=
  ⟨[], by kernel_rfl⟩
set_option maxRecDepth 100000 in
theorem lifted (os : Os) (started : os.Started) (H : Type) (enc : TypeId × Value → H) (F : Stop.Interp) :
    ReturnsInHanded {} Tryz.checked os 3 .any ((OpenSpec.ofChange Rows.parserParsesSpec).preRow enc Tryz.prog Tryz.f3 Rows.parserParsesRow.domain false Rows.parserParsesRow.laid) (((OpenSpec.ofChange Rows.parserParsesSpec).at F).post enc Tryz.prog Tryz.f3 false true false false) := by
  obtain ⟨places, hx⟩ := reads os enc
  refine returnsInHanded_of_row (C := Tryz.checked) (s := OpenSpec.ofChange Rows.parserParsesSpec) own started (by kernel_rfl) Tryz.func3
    (witness_row_atRef (enc := enc) (C := Tryz.checked) false (laidW os) #[.agg #[.slice none 0 0, .slice none 0 0, .slice none 0 0], .string ⟨#[]⟩] (laidW_os os) (vars_ok os _) (heap_ok os _) (by kernel_rfl)
      (OpenSpec.preRow_of_cond 8 hx (by kernel_rfl) (fun k hk => by cases hk) (by kernel_rfl) (laid_met os _))) ?_
  intro W base args ds gs before hval hW _ _ _ hL hsh _
  exact contract H enc W base args ds gs before hval hW (env_of hL hsh)
theorem said : Rows.ParserParsesSaid :=
  OpenClaim.holds_of_cond 3 Tryz.f3 rfl rfl rfl rfl rfl rfl rfl ⟨rfl, rfl, rfl, rfl, rfl⟩ rfl rfl rfl rfl rfl (by kernel_rfl) Tryz.func3 (by kernel_rfl)
    (of_decide_eq_true (by kernel_rfl)) (by unfold Func.isWrapper; first | (rw [if_pos (by decide +kernel)]; kernel_rfl) | (rw [if_neg (by decide +kernel)]; exact ⟨rfl, rfl⟩))
    (fun os started H enc _ F => by rw [OpenClaim.pre_eq_preRow]; exact lifted os started H enc F)
theorem plain (f : FuncId) (fn : Func) (hf : Tryz.pinned.checked.prog.funcNamed "witting/wittinglaw06.ParserParses" = some f) (hfn : Tryz.pinned.checked.prog.funcs[f]? = some fn) :
    false = Tryz.pinned.checked.prog.looks [] ∧ ∀ (j : Nat) t, fn.params[j]? = some t → Tryz.pinned.checked.prog.wantsStandIn t = false := by
  obtain rfl : f = 3 := Option.some.inj ((show Tryz.prog.funcNamed "witting/wittinglaw06.ParserParses" = some 3 by kernel_rfl).symm.trans hf) |>.symm
  obtain rfl : fn = Tryz.f3 := (Option.some.inj (Tryz.func3.symm.trans hfn)).symm
  refine ⟨no_looks, fun j t ht => ?_⟩
  rw [Tryz.params3] at ht
  have hm : t ∈ [24, 9] := by simpa using Array.mem_of_getElem? ht
  have hall : ([24, 9].all fun u => !Tryz.prog.wantsStandIn u) = true := by kernel_rfl
  exact (show Tryz.prog.wantsStandIn t = false by simpa using List.all_eq_true.1 hall t hm)
theorem card : Rows.ParserParsesCardSaid :=
  Claim7.holds_tied_plain_at .later [] _ _ _ _ said (fun _ h => by cases h) (by kernel_rfl) (fun _ h => by cases h) parserParses_row_tie rfl ⟨rfl, rfl⟩ (by kernel_rfl) rfl plain (by kernel_rfl)
#print axioms card
end Go.Proofs.YthhkeobjjeldhaaGreatDoor.parserParses
