/- ParserFits (P6.4): what is read is a valid compact formula, all of whose agents and facts are in the signature; an error has no formula and a position in the text. Conditions: the package variables that the row lists hold what the program's text lays in them. -/
import Derived.Test.YthhkeobjjeldhaaDoorJl
import Derived.Test.YthhkeobjjeldhaaDoorJn
namespace Go.Proofs.YthhkeobjjeldhaaDoor.parserFits
open Go.ChangeShapes Go.WideShapes Go.ChangeAt Go.RowKit Go.Proofs.YthhkeobjjeldhaaDoor Go.Proofs.YthhkeobjjeldhaaDoor.par Go.Proofs.Ws Go.Maps
open Go.ChangeMaps (open_string shut_string)
set_option maxRecDepth 100000 in
set_option maxHeartbeats 8000000 in
theorem walk (a0 : Option Addr) (n0 c0 : Nat) (a1 : Option Addr) (n1 c1 : Nat) (a2 : Option Addr) (n2 c2 : Nat) (A F X : List ByteArray) (t : ByteArray) (w : World) (s0 : SL0 w a0 n0 c0 A) (s1 : SL0 w a1 n1 c1 F) (s2 : SL0 w a2 n2 c2 X) (ht : t.size ≤ maxLen) (hE : EnvS w) :
    Calls Tryd.prog 4 #[.agg #[.slice a0 n0 c0, .slice a1 n1 c1, .slice a2 n2 c2], .string t] w fun e w' => e = .returned (.bool true) ∧ Below w.heap.size w w' := by
  have HX := Lib.hid (@boxed w a0 a1 a2 n0 c0 n1 c1 n2 c2 31)
  have HG : Hid (∀ W, Below (w.heap.size + 1) (w.alloc (.cells #[.slice a0 n0 c0, .slice a1 n1 c1, .slice a2 n2 c2] 31)) W → EnvS W ∧ (SLw W W.heap.size a0 n0 c0 A ∧ SLw W W.heap.size a1 n1 c1 F ∧ SLw W W.heap.size a2 n2 c2 X) ∧ Below w.heap.size w W ∧ w.heap.size + 1 ≤ W.heap.size ∧ (fewB A F X t = true → SigR W W.heap.size (.agg #[.slice a0 n0 c0, .slice a1 n1 c1, .slice a2 n2 c2]) A F X)) := Lib.hid (fun W hW => by
    have h1 : Below w.heap.size w W := ((Below.refl _ w).alloc (Nat.le_refl _) _).trans (hW.mono (by omega))
    have m : ∀ {a : Option Addr} {n c : Nat} {l : List ByteArray}, SL0 w a n c l → SLw W W.heap.size a n c l := fun h => ⟨(h.1.below h1).more h1.size, h.2.2.2.1, h.2.2.1⟩
    have q : ∀ {a : Option Addr} {n c : Nat} {l : List ByteArray}, SL0 w a n c l → n ≤ 20 → SL W W.heap.size a n c l := fun h hn => ((h.small hn).below h1).more h1.size
    refine ⟨hE.below h1, ⟨m s0, m s1, m s2⟩, h1, by have := hW.size; simpa using this, fun hf => ?_⟩
    unfold fewB at hf
    simp only [Bool.and_eq_true, decide_eq_true_eq] at hf
    have l0 := s0.1.str_len
    have l1 := s1.1.str_len
    have l2 := s2.1.str_len
    exact ⟨_, _, _, _, _, _, _, _, _, rfl, q s0 (by omega), q s1 (by omega), q s2 (by omega)⟩)
  have HLN : Hid (A.length = n0 ∧ F.length = n1) := Lib.hid ⟨s0.1.str_len, s1.1.str_len⟩
  have HFW := Lib.hid (fun W (hW : Below (w.heap.size + 1) (w.alloc (.cells #[.slice a0 n0 c0, .slice a1 n1 c1, .slice a2 n2 c2] 31)) W) => kFew_any a0 n0 c0 a1 n1 c1 a2 n2 c2 A F X t W (HG.out W hW).2.1.1 (HG.out W hW).2.1.2.1 (HG.out W hW).2.1.2.2 ht)
  have HTM : Hid (t.size ≤ maxLen) := Lib.hid ht
  have HB0 := Lib.hid (Below.refl (w.heap.size + 1) (w.alloc (.cells #[.slice a0 n0 c0, .slice a1 n1 c1, .slice a2 n2 c2] 31)))
  clear hE s0 s1 s2 ht
  by_cases hfew : fewB A F X t = true
  · have HFT := Lib.hid hfew
    rw [hfew] at HFW
    clear hfew
    go_enter Tryd.func4, Tryd.ntmps4
    go_wp2_with fail
    refine (HFW.out _ HB0.out).mono ?_
    rintro e w1 ⟨rfl, hb⟩
    have HB : Hid (Below (w.heap.size + 1) (w.alloc (.cells #[.slice a0 n0 c0, .slice a1 n1 c1, .slice a2 n2 c2] 31)) w1) := Lib.hid (HB0.out.trans (hb.mono (HG.out _ HB0.out).2.2.2.1))
    obtain ⟨q0, q1, q2⟩ := HX.out w1 HB.out
    clear hb HFW HB0
    have HPV := Lib.hid (parseV_pos A F X t)
    have HPF := Lib.hid (@parseV_fits A F X t)
    have HPA := Lib.hid (kParse_own a0 n0 c0 a1 n1 c1 a2 n2 c2 A F X t w1 ((HG.out _ HB.out).2.2.2.2 HFT.out) (HG.out _ HB.out).1 HTM.out)
    rw [HLN.out.1, HLN.out.2] at HPF
    generalize hP : parseV A F X t = P at *
    clear hP
    obtain ⟨l, po, er⟩ := P
    dsimp only at HPV HPF HPA
    go_wp2_with fail
    refine (HPA.out).mono ?_
    rintro e w2 ⟨A', c', rfl, hO, hb⟩
    have HR := Lib.hid (Reads.of_own hO)
    have HB2 : Hid (Below (w.heap.size + 1) (w.alloc (.cells #[.slice a0 n0 c0, .slice a1 n1 c1, .slice a2 n2 c2] 31)) w2) := Lib.hid (HB.out.trans (hb.mono (HG.out _ HB.out).2.2.2.1))
    obtain ⟨p0, p1, p2⟩ := HX.out w2 HB2.out
    clear hb hO HPA q0 q1 q2 HB
    by_cases her : er = 0
    · subst her
      obtain ⟨e1, e2, e3, e4, e5, e6⟩ := HPF.out rfl
      subst e1
      have d1 : decide ((0 : Int) < (l.length : Int)) = true := decide_eq_true (by omega)
      have d2 : decide (0 < l.length) = true := decide_eq_true e2
      have d3 : decide ((l.length : Int) ≤ 200) = true := decide_eq_true (by omega)
      have d4 : decide (l.length ≤ 200) = true := decide_eq_true e3
      have HE6 := Lib.hid e6
      have HK1 : Hid (∀ W, Below (w2.heap.size) w2 W → Calls Tryd.prog 16 #[.slice A' l.length c'] W fun e w' => e = .returned (.int .i64 0) ∧ Below W.heap.size W w') := Lib.hid (fun W hW => e4 ▸ pCheck_any l A' l.length c' W ((HR.out.below hW).more hW.size) (by unfold maxLen; omega))
      have HK2 : Hid (∀ W, Below (w2.heap.size) w2 W → Calls Tryd.prog 17 #[.slice A' l.length c', .int .i64 (n0 : Int), .int .i64 (n1 : Int)] W fun e w' => e = .returned (.bool true) ∧ Below W.heap.size W w') := Lib.hid (fun W hW => e5 ▸ pFits_any l n0 n1 A' l.length c' W ((HR.out.below hW).more hW.size) (by unfold maxLen; omega))
      have HK3 : Hid (∀ W, Below (w2.heap.size) w2 W → Calls Tryd.prog 19 #[.slice A' l.length c'] W fun e w' => ∃ A3 c3, e = .returned (.slice A3 l.length c3) ∧ Reads w' w'.heap.size 6 A3 l.length (nds l) ∧ Below W.heap.size W w') := Lib.hid (fun W hW => by
        have := pCompact_any l A' l.length c' W ((HR.out.below hW).more hW.size) (by unfold maxLen; omega)
        rw [HE6.out] at this
        exact this)
      have HK4 : Hid (∀ W A3 c3, Below (w2.heap.size) w2 W → Reads W W.heap.size 6 A3 l.length (nds l) → Calls Tryd.prog 18 #[.slice A3 l.length c3, .slice A' l.length c'] W fun e w' => e = .returned (.bool true) ∧ Below W.heap.size W w') := Lib.hid (fun W A3 c3 hW h3 => by
        have := rSameNodes_any l l A3 A' l.length l.length c3 c' W h3 ((HR.out.below hW).more hW.size) (by unfold maxLen; omega) (by unfold maxLen; omega)
        rw [decide_eq_true rfl] at this
        exact this)
      have HC0 := Lib.hid (Below.refl w2.heap.size w2)
      have HXW := Lib.hid (fun W (hW : Below w2.heap.size w2 W) => HB2.out.trans (hW.mono (HG.out _ HB2.out).2.2.2.1))
      generalize l.length = L at *
      clear e2 e3 e4 e5 e6 HPV HPF HFT HTM HR HE6
      go_wp2_with fail
      refine (HK1.out _ HC0.out).mono ?_
      rintro e w3 ⟨rfl, hb⟩
      have HC1 := Lib.hid (HC0.out.trans (hb.mono HC0.out.size))
      obtain ⟨r0, r1, r2⟩ := HX.out w3 (HXW.out _ HC1.out)
      clear hb p0 p1 p2 HK1
      go_wp2_with fail
      refine (HK2.out _ HC1.out).mono ?_
      rintro e w4 ⟨rfl, hb⟩
      have HC2 := Lib.hid (HC1.out.trans (hb.mono HC1.out.size))
      clear hb HK2 r0 r1 r2
      go_wp2_with fail
      refine (HK3.out _ HC2.out).mono ?_
      rintro e w5 ⟨A3, c3, rfl, hR3, hb⟩
      have HC3 := Lib.hid (HC2.out.trans (hb.mono HC2.out.size))
      have HR3 := Lib.hid hR3
      clear hb HK3 hR3
      go_wp2_with fail
      refine (HK4.out _ A3 c3 HC3.out HR3.out).mono ?_
      rintro e w6 ⟨rfl, hb⟩
      have HC4 := Lib.hid (HC3.out.trans (hb.mono HC3.out.size))
      clear hb HK4
      go_wp2_with fail
      refine (awake_any _ (HG.out _ (HXW.out _ HC4.out)).1).mono ?_
      rintro e w7 ⟨rfl, hb⟩
      have HC5 := Lib.hid (HC4.out.trans (hb.mono HC4.out.size))
      clear hb
      go_wp2
      go_ret
      exact ⟨rfl, (HG.out _ (HXW.out _ HC5.out)).2.2.1⟩
    · have hne : (er != 0) = true := by rw [bne_iff_ne]; exact her
      have hl0 : l = [] := HPV.out.2 her
      subst hl0
      have hpo := HPV.out.1
      have d1 : decide ((0 : Int) ≤ (po : Int)) = true := decide_eq_true (by omega)
      have d2 : decide ((po : Int) ≤ (t.size : Int)) = true := decide_eq_true (by omega)
      have d3 : decide (0 ≤ po) = true := decide_eq_true (by omega)
      have d4 : decide (po ≤ t.size) = true := decide_eq_true hpo
      clear HPV HPF HFT HR her hpo
      go_wp2_with fail
      refine (awake_any _ (HG.out _ HB2.out).1).mono ?_
      rintro e w3 ⟨rfl, hb⟩
      have HB3 : Hid (Below (w.heap.size + 1) (w.alloc (.cells #[.slice a0 n0 c0, .slice a1 n1 c1, .slice a2 n2 c2] 31)) w3) := Lib.hid (HB2.out.trans (hb.mono (HG.out _ HB2.out).2.2.2.1))
      clear hb
      go_wp2
      go_ret
      exact ⟨rfl, (HG.out _ HB3.out).2.2.1⟩
  · have HFT : Hid (fewB A F X t = false) := Lib.hid (by simpa using hfew)
    rw [HFT.out] at HFW
    clear hfew
    go_enter Tryd.func4, Tryd.ntmps4
    go_wp2_with fail
    refine (HFW.out _ HB0.out).mono ?_
    rintro e w1 ⟨rfl, hb⟩
    have HB : Hid (Below (w.heap.size + 1) (w.alloc (.cells #[.slice a0 n0 c0, .slice a1 n1 c1, .slice a2 n2 c2] 31)) w1) := Lib.hid (HB0.out.trans (hb.mono (HG.out _ HB0.out).2.2.2.1))
    clear hb HFW HB0
    go_wp2_with fail
    refine (awake_any _ (HG.out _ HB.out).1).mono ?_
    rintro e w2 ⟨rfl, hb⟩
    have HB2 : Hid (Below (w.heap.size + 1) (w.alloc (.cells #[.slice a0 n0 c0, .slice a1 n1 c1, .slice a2 n2 c2] 31)) w2) := Lib.hid (HB.out.trans (hb.mono (HG.out _ HB.out).2.2.2.1))
    clear hb
    go_wp2
    go_ret
    exact ⟨rfl, (HG.out _ HB2.out).2.2.1⟩
set_option maxRecDepth 100000 in
theorem contract (H : Type) (enc : TypeId × Value → H) (W : World) (base : Nat) (args : Array Value) (ds gs : List (DataW H)) (before : List MemPlace)
    (hval : ∀ (j : Nat) t v, Tryd.f4.params[j]? = some t → args[j]? = some v → Value.okWide Tryd.prog W .any base t v)
    (hW : DataW.Whole enc Tryd.prog Tryd.f4.params.toList Rows.parserFitsSpec.vars false W args.toList ds gs before) (hE : EnvS W) :
    Calls Tryd.prog 4 args W fun e W' => ∃ v, e = .returned v ∧ Rows.parserFitsSpec.post enc Tryd.prog Tryd.f4 false true false false W args v W' := by
  have hW' := hW
  obtain ⟨p, q, hA0, hV, rfl, hfz, hnd⟩ := hW
  have hA : DataW.TrodAll enc Tryd.prog W 0 (fun _ => true) true Tryd.f4.params.toList args.toList ds p := hA0
  rw [Tryd.params4] at hA hval
  obtain ⟨v0, vs0, d0, ds0, p0, q0, hargs, rfl, rfl, h0, r0⟩ := trodAll_cons hA
  obtain ⟨v1, vs1, d1, ds1, p1, q1, rfl, rfl, rfl, h1, r1⟩ := trodAll_cons r0
  obtain ⟨rfl, rfl, rfl⟩ := trodAll_nil r1
  obtain rfl : args = #[v0, v1] := by cases args; simp_all
  obtain ⟨rfl, rfl⟩ := trodVars_none hV
  obtain ⟨a0, n0, c0, a1, n1, c1, a2, n2, c2, A, F, X, rfl, s0, s1, s2⟩ := open_sig (hval 0 31 v0 rfl rfl) h0
  have k0 := h0
  have lt0 : ∀ x ∈ p0, x.block < W.heap.size := by obtain ⟨m, hm⟩ := k0; exact DataW.trod_lt m _ _ _ hm
  obtain ⟨t1, rfl, rfl, rfl, w1⟩ := open_string Tryd.underlying9 (hval 1 9 v1 rfl rfl) h1
  clear hA0
  simp only [List.append_nil] at hW'
  have hwalk := walk a0 n0 c0 a1 n1 c1 a2 n2 c2 A F X t1 W s0 s1 s2 w1 hE
  refine hwalk.mono fun e W' ⟨he, hg⟩ => ?_
  subst he
  exact ⟨_, rfl, _, _, _, [], _, [], hW', trodAll_mk1 (shut_bool Tryd.underlying4 _), (trodAll_cons_mk (Below.trod laidOut (by kernel_rfl) (of_decide_eq_true (by kernel_rfl)) k0 hg lt0) (trodAll_cons_mk (shut_string Tryd.underlying9 w1) trodAll_mk0)), rfl, hg.frame _, fun h => by cases h⟩
theorem reads (os : Os) {H : Type} (enc : TypeId × Value → H) : ∃ places, DataW.whole enc Tryd.prog ((laidW os).forCall (fun _ _ => 0) ⟨#[], #[.agg #[.slice none 0 0, .slice none 0 0, .slice none 0 0], .string ⟨#[]⟩], []⟩).memory Tryd.f4.params.toList Rows.parserFitsSpec.vars false #[(.agg #[.slice none 0 0, .slice none 0 0, .slice none 0 0] : Value), (.string ⟨#[]⟩ : Value)].toList 8 = some ([.agg [.nil, .nil, .nil], .lit (.string [])], [], places) :=
  ⟨[], by kernel_rfl⟩
set_option maxRecDepth 100000 in
theorem lifted (os : Os) (started : os.Started) (H : Type) (enc : TypeId × Value → H) (F : Stop.Interp) :
    ReturnsInHanded {} Tryd.checked os 4 .any ((OpenSpec.ofChange Rows.parserFitsSpec).preRow enc Tryd.prog Tryd.f4 Rows.parserFitsRow.domain false Rows.parserFitsRow.laid) (((OpenSpec.ofChange Rows.parserFitsSpec).at F).post enc Tryd.prog Tryd.f4 false true false false) := by
  obtain ⟨places, hx⟩ := reads os enc
  refine returnsInHanded_of_row (C := Tryd.checked) (s := OpenSpec.ofChange Rows.parserFitsSpec) own started (by kernel_rfl) Tryd.func4
    (witness_row_atRef (enc := enc) (C := Tryd.checked) false (laidW os) #[.agg #[.slice none 0 0, .slice none 0 0, .slice none 0 0], .string ⟨#[]⟩] (laidW_os os) (vars_ok os _) (heap_ok os _) (by kernel_rfl)
      (OpenSpec.preRow_of_cond 8 hx (by kernel_rfl) (fun k hk => by cases hk) (by kernel_rfl) (laid_met os _))) ?_
  intro W base args ds gs before hval hW _ _ _ hL hsh _
  exact contract H enc W base args ds gs before hval hW (env_of hL hsh)
theorem said : Rows.ParserFitsSaid :=
  OpenClaim.holds_of_cond 4 Tryd.f4 rfl rfl rfl rfl rfl rfl rfl ⟨rfl, rfl, rfl, rfl, rfl⟩ rfl rfl rfl rfl rfl (by kernel_rfl) Tryd.func4 (by kernel_rfl)
    (of_decide_eq_true (by kernel_rfl)) (by unfold Func.isWrapper; first | (rw [if_pos (by decide +kernel)]; kernel_rfl) | (rw [if_neg (by decide +kernel)]; exact ⟨rfl, rfl⟩))
    (fun os started H enc _ F => by rw [OpenClaim.pre_eq_preRow]; exact lifted os started H enc F)
theorem plain (f : FuncId) (fn : Func) (hf : Tryd.pinned.checked.prog.funcNamed "witting/wittinglaw06.ParserFits" = some f) (hfn : Tryd.pinned.checked.prog.funcs[f]? = some fn) :
    false = Tryd.pinned.checked.prog.looks [] ∧ ∀ (j : Nat) t, fn.params[j]? = some t → Tryd.pinned.checked.prog.wantsStandIn t = false := by
  obtain rfl : f = 4 := Option.some.inj ((show Tryd.prog.funcNamed "witting/wittinglaw06.ParserFits" = some 4 by kernel_rfl).symm.trans hf) |>.symm
  obtain rfl : fn = Tryd.f4 := (Option.some.inj (Tryd.func4.symm.trans hfn)).symm
  refine ⟨no_looks, fun j t ht => ?_⟩
  rw [Tryd.params4] at ht
  have hm : t ∈ [31, 9] := by simpa using Array.mem_of_getElem? ht
  have hall : ([31, 9].all fun u => !Tryd.prog.wantsStandIn u) = true := by kernel_rfl
  exact (show Tryd.prog.wantsStandIn t = false by simpa using List.all_eq_true.1 hall t hm)
theorem card : Rows.ParserFitsCardSaid :=
  Claim7.holds_tied_plain_at .later [] _ _ _ _ said (fun _ h => by cases h) (by kernel_rfl) (fun _ h => by cases h) parserFits_row_tie rfl ⟨rfl, rfl⟩ (by kernel_rfl) rfl plain (by kernel_rfl)
#print axioms card
end Go.Proofs.YthhkeobjjeldhaaDoor.parserFits
