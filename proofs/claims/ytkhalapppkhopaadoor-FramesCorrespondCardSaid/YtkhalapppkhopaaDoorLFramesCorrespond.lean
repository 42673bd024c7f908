/- Layer 15: FramesCorrespond: a relation has the properties of a logic exactly if their axioms are true in all worlds for all sets. -/
import Derived.Test.YtkhalapppkhopaaDoorNFp
import Derived.Test.YtkhalapppkhopaaDoorNFq
namespace Go.Proofs.YtkhalapppkhopaaDoor.framesCorrespond
open Go.ChangeShapes Go.WideShapes Go.ChangeAt Go.RowKit Go.Proofs.YtkhalapppkhopaaDoor Go.Proofs.YtkhalapppkhopaaDoor.fra Go.Proofs.Ws
open Go.ChangeMaps (open_string shut_string)
/-- the axioms of the first properties are true throughout -/
def firstQ (n : Nat) (l : List Nat) (P : List Int) (i : Nat) : Prop := ∀ j, j < i → HasP n (P.getD j 0) l
def setsQ (n : Nat) (l : List Nat) (p : Int) (s : Nat) : Prop := ∀ t, t < s → axV n p l t = allV n
theorem first_zero (n : Nat) (l : List Nat) (P : List Int) : qB (firstQ n l P 0) = true := (qB_iff _).2 fun j hj => absurd hj (by omega)
theorem sets_zero (n : Nat) (l : List Nat) (P : List Int) (p : Int) (i : Nat) : qB (firstQ n l P i) = qB (firstQ n l P i ∧ setsQ n l p 0) :=
  qB_congr ⟨fun h => ⟨h, fun j hj => absurd hj (by omega)⟩, fun h => h.1⟩
theorem sets_step (n : Nat) (l : List Nat) (P : List Int) (p : Int) (i s : Nat) (h : qB (firstQ n l P i ∧ setsQ n l p s) = true) : qB (firstQ n l P i ∧ setsQ n l p (s + 1)) = decide (axV n p l s = allV n) := by
  have h1 := (qB_iff _).1 h
  rw [Bool.eq_iff_iff, qB_iff, decide_eq_true_eq]
  constructor
  · intro h2; exact h2.2 s (by omega)
  · intro h2
    refine ⟨h1.1, fun t ht => ?_⟩
    by_cases e : t = s
    · rw [e]; exact h2
    · exact h1.2 t (by omega)
theorem sets_no (n : Nat) (l : List Nat) (P : List Int) (p : Int) (i s : Nat) (h : qB (firstQ n l P i ∧ setsQ n l p s) = false) : qB (firstQ n l P i ∧ setsQ n l p (s + 1)) = false :=
  qB_false fun h2 => by
    rw [(qB_iff _).2 (show firstQ n l P i ∧ setsQ n l p s from ⟨h2.1, fun t ht => h2.2 t (by omega)⟩)] at h
    cases h
theorem sets_all {n : Nat} {l : List Nat} {P : List Int} {i : Nat} (h0 : relErr n l = 0) (hl : l.length = n) (hp : 1 ≤ P.getD i 0 ∧ P.getD i 0 ≤ 5) : qB (firstQ n l P i ∧ setsQ n l (P.getD i 0) (2 ^ n)) = qB (firstQ n l P (i + 1)) := by
  have hc : setsQ n l (P.getD i 0) (2 ^ n) ↔ HasP n (P.getD i 0) l := by
    rw [← corr h0 hl (P.getD i 0) hp]
    exact ⟨fun h s hs => (axV_all h0 hl _ s hs).1 (h s hs), fun h s hs => (axV_all h0 hl _ s hs).2 (h s hs)⟩
  refine qB_congr ⟨fun h j hj => ?_, fun h => ⟨fun j hj => h j (by omega), hc.2 (h i (by omega))⟩⟩
  by_cases e : j = i
  · rw [e]; exact hc.1 h.2
  · exact h.1 j (by omega)
theorem first_all {n : Nat} {l : List Nat} {g : Int} (h0 : relErr n l = 0) (hl : l.length = n) (hg : proE g = 0) : qB (HasG l g) = qB (firstQ n l (proL g) (proL g).length) := by
  subst hl
  refine qB_congr ⟨fun h j hj => (h.2.2 _ (getD_memI hj)).2, fun h => ⟨hg, h0, fun p hp => ⟨h0, ?_⟩⟩⟩
  obtain ⟨j, hj, rfl⟩ := List.getElem_of_mem hp
  have h1 := h j hj
  rwa [List.getD_eq_getElem?_getD, List.getElem?_eq_getElem hj] at h1
theorem pow_wrap {n : Nat} (hn : n ≤ 5) : IntKind.u64.wrap (2 ^ min (IntKind.u64.wrap (n : Int)).toNat 64) = ((2 ^ n : Nat) : Int) := by
  have h : ∀ k : Fin 6, IntKind.u64.wrap (2 ^ min (IntKind.u64.wrap (k.1 : Int)).toNat 64) = ((2 ^ k.1 : Nat) : Int) := by decide +kernel
  exact h ⟨n, by omega⟩
set_option maxRecDepth 100000
set_option maxHeartbeats 16000000 in
theorem walk (l : List Nat) (A : Option Addr) (n c : Nat) (g : Int) (w : World) (hR : Reads w w.heap.size 1 A n (us l)) (hw : Words l) (hm : n ≤ maxLen) (hT : Tab w) :
    Calls Tryd.prog 5 #[.slice A n c, .int .i64 g] w fun e w' => e = .returned (.bool true) ∧ Below w.heap.size w w' := by
  have hl := hR.word_len
  have HAW : Hid (∀ W, Below w.heap.size w W → Calls Tryd.prog 11 #[] W fun e w' => e = .returned (.bool true) ∧ Below W.heap.size W w') := Lib.hid (fun W hb => awake_any W (hT.below hb))
  have HC := Lib.hid (fun W (hb : Below w.heap.size w W) => check_any n l A n c W.heap.size W ((hR.below hb).more hb.size) hw hm)
  by_cases hn : n ≤ 5
  case neg =>
    have d1 : decide ((5 : Int) < (n : Int)) = true := decide_eq_true (by omega)
    clear hR hw hm hT hn HC
    go_enter Tryd.func5, Tryd.ntmps5
    go_wp2_with fail
    refine (HAW.out _ (Below.refl w.heap.size w)).mono ?_
    rintro e w9 ⟨rfl, hb9⟩
    have HB9 := Lib.hid ((Below.refl w.heap.size w).trans (hb9.mono (Below.refl w.heap.size w).size))
    clear hb9
    go_wp2
    go_ret
    exact ⟨rfl, HB9.out⟩
  have d1 : decide ((5 : Int) < (n : Int)) = false := decide_eq_false (by omega)
  by_cases h0 : relErr n l = 0
  case neg =>
    have d2 : (relErr n l != 0) = true := by rw [bne_iff_ne]; exact h0
    generalize relErr n l = er at *
    clear hR hw hm hT hn h0
    go_enter Tryd.func5, Tryd.ntmps5
    go_wp2_with fail
    refine (HC.out _ (Below.refl w.heap.size w)).mono ?_
    rintro e w3 ⟨rfl, rfl⟩
    go_wp2_with fail
    refine (HAW.out _ (Below.refl w.heap.size w)).mono ?_
    rintro e w9 ⟨rfl, hb9⟩
    have HB9 := Lib.hid ((Below.refl w.heap.size w).trans (hb9.mono (Below.refl w.heap.size w).size))
    clear hb9
    go_wp2
    go_ret
    exact ⟨rfl, HB9.out⟩
  rw [h0] at HC
  have HP := Lib.hid (pPro_any g w)
  unfold GivesP at HP
  have hk3 := proL_len g
  have HG := Lib.hid (fun W (hb : Below w.heap.size w W) => pHas_any l A n c g W ((hR.below hb).more hb.size) hw hm (hT.below hb))
  by_cases hg : proE g = 0
  case neg =>
    have hg1 : proE g = 1 := by rcases pro_cases g with h | h | h | h | h | h | h | h <;> first | exact absurd h.2.2 hg | exact h.2.2
    have e : qB (HasG l g) = false := qB_false fun h => hg h.1
    rw [e] at HG
    rw [hg1] at HP
    have d3 : decide ((5 : Int) < ((proL g).length : Int)) = false := decide_eq_false (by omega)
    clear hR hw hm hT hn h0 hg hg1 e hl
    generalize (proL g).length = k at *
    go_enter Tryd.func5, Tryd.ntmps5
    go_wp2_with fail
    refine (HC.out _ (Below.refl w.heap.size w)).mono ?_
    rintro e w3 ⟨rfl, rfl⟩
    go_wp2_with fail
    refine (HP.out).mono ?_
    rintro e w3 ⟨D, d, rfl, _, hb⟩
    have HB := Lib.hid hb
    clear hb
    go_wp2_with fail
    refine (HG.out _ HB.out).mono ?_
    rintro e w4 ⟨rfl, hb⟩
    have HB4 := Lib.hid (HB.out.trans (hb.mono HB.out.size))
    clear hb
    go_wp2_with fail
    refine (HAW.out _ HB4.out).mono ?_
    rintro e w9 ⟨rfl, hb9⟩
    have HB9 := Lib.hid (HB4.out.trans (hb9.mono HB4.out.size))
    clear hb9
    go_wp2
    go_ret
    exact ⟨rfl, HB9.out⟩
  rw [hg] at HP
  have d3 : decide ((5 : Int) < ((proL g).length : Int)) = false := decide_eq_false (by omega)
  have hpw := pow_wrap hn
  have HH := Lib.hid (fun W (s : Nat) (p : Int) (hs : s < 18446744073709551616) (hb : Below w.heap.size w W) => holds_any l A n c s W ((hR.below hb).more hb.size) hw h0 hs p)
  have HA := Lib.hid (fun W => ref2All_any n W (by omega))
  rw [first_all h0 hl hg] at HG
  have HSA : Hid (∀ i, i < (proL g).length → qB (firstQ n l (proL g) i ∧ setsQ n l ((proL g).getD i 0) (2 ^ n)) = qB (firstQ n l (proL g) (i + 1))) := Lib.hid (fun i hi => sets_all h0 hl (proL_in g _ (getD_memI hi)))
  have hN32 : 2 ^ n ≤ 32 := Nat.le_trans (Nat.pow_le_pow_right (by decide) hn) (by decide)
  clear hR hw hm hT hn h0 hg hl
  generalize hPL : proL g = PL at *
  generalize hk : PL.length = k at *
  have HKK := Lib.hid hk
  clear hPL hk
  obtain ⟨N, hN⟩ : ∃ N, 2 ^ n = N := ⟨_, rfl⟩
  rw [hN] at hpw HSA hN32
  clear hN
  go_enter Tryd.func5, Tryd.ntmps5
  go_wp2_with fail
  refine (HC.out _ (Below.refl w.heap.size w)).mono ?_
  rintro e w3 ⟨rfl, rfl⟩
  go_wp2_with fail
  refine (HP.out).mono ?_
  rintro e w3 ⟨D, d, rfl, hL, hb⟩
  have HB := Lib.hid hb
  have HL := Lib.hid hL
  clear hb hL
  clear d1
  have hqz := first_zero n l PL
  go_wp2
  clear d3
  go_loopw [8, 9, 10] (fun v8 i _ wr => ∃ j : Nat, j ≤ k ∧ i = .int .i64 (j : Int) ∧ v8 = .bool (qB (firstQ n l PL j)) ∧ Hid (Below w3.heap.size w3 wr)) (fun _ i _ _ => k - (intOf i).toNat)
  case atStart => exact ⟨0, Nat.zero_le _, rfl, by rw [hqz], Lib.hid (Below.refl _ _)⟩
  clear hqz
  case round =>
    obtain ⟨j, hj, rfl, rfl, HBj⟩ := hrel
    by_cases hlt : j < k
    · have HSJ := Lib.hid (HSA.out j hlt)
      have hz := sets_zero n l PL (PL.getD j 0) j
      obtain ⟨ad, rfl, _, hcj⟩ := ((HL.out.below HBj.out).more HBj.out.size).int_k hlt
      have HCJ : Hid (∀ W, Below w3.heap.size w3 W → W.cell? (ad.add j) = some (.int .i64 (PL.getD j 0))) := Lib.hid (fun W hb => by
        obtain ⟨ad2, e2, _, h2⟩ := ((HL.out.below hb).more hb.size).int_k hlt
        injection e2 with e2
        subst e2
        exact h2)
      clear hcj
      have HST := Lib.hid (fun s => sets_step n l PL (PL.getD j 0) j s)
      have HNO := Lib.hid (fun s => sets_no n l PL (PL.getD j 0) j s)
      generalize hb0 : qB (firstQ n l PL j) = b0 at *
      generalize hb1 : qB (firstQ n l PL (j + 1)) = b1 at *
      have HB1 := Lib.hid hb1
      clear hb1
      generalize PL.getD j 0 = p at *
      clear hb0
      have HZ := Lib.hid hz
      clear hz
      go_wp2
      rename World => wo
      go_loopw [8, 10] (fun v8 i wr => ∃ s : Nat, s ≤ N ∧ i = .int .u64 (s : Int) ∧ v8 = .bool (qB (firstQ n l PL j ∧ setsQ n l p s)) ∧ Hid (Below w3.heap.size w3 wr)) (fun _ i _ => N - (intOf i).toNat)
      case atStart => exact ⟨0, Nat.zero_le _, rfl, by rw [HZ.out], HBj⟩
      case round =>
        obtain ⟨s, hs, rfl, rfl, HBI⟩ := hrel
        by_cases hsN : s < N
        · have dlt : decide ((s : Int) < (N : Int)) = true := decide_eq_true (by omega)
          have ws : IntKind.u64.wrap ((s : Int) + 1) = ((s + 1 : Nat) : Int) := by rw [IntKind.wrap_u64]; omega
          cases hb : qB (firstQ n l PL j ∧ setsQ n l p s) with
          | false =>
            have hn := Lib.hid (HNO.out s hb)
            clear hb
            go_wp2
            go_roundw
            case rel => exact ⟨s + 1, by omega, by go_num, by rw [hn.out], HBI⟩
            case measure => simp [intOf]; omega
          | true =>
            have hy := Lib.hid (HST.out s hb)
            have hcc := HCJ.out wr HBI.out
            have HHS := Lib.hid (fun W hb => HH.out W s p (by omega) hb)
            have HEQ : Hid ((((axV n p l s : Nat) : Int) == (allV n : Int)) = decide (axV n p l s = allV n)) := Lib.hid (by
              rw [Bool.eq_iff_iff, beq_iff_eq, decide_eq_true_eq]; omega)
            clear hb
            have HBW := Lib.hid (HB.out.trans (HBI.out.mono HB.out.size))
            generalize axV n p l s = av at *
            generalize allV n = va at *
            go_wp2_with fail
            refine (HHS.out _ HBW.out).mono ?_
            rintro e w5 ⟨rfl, hb⟩
            have HB5 := Lib.hid (HBI.out.trans (hb.mono HBI.out.size))
            clear hb
            go_wp2_with fail
            refine (HA.out _).mono ?_
            rintro e w6 ⟨rfl, rfl⟩
            clear hcc
            go_wp2
            go_roundw
            case rel => exact ⟨s + 1, by omega, by go_num, by rw [hy.out, HEQ.out], HB5⟩
            case measure => simp [intOf]; omega
        · obtain rfl : N = s := by omega
          have dlt : decide ((N : Int) < (N : Int)) = false := decide_eq_false (by omega)
          go_wp2
          go_roundw
          case rel => exact ⟨j + 1, by omega, by go_num, by rw [HSJ.out, HB1.out], HBI⟩
          case measure => first | (simp [intOf]; done) | (simp [intOf]; omega)
    · obtain rfl : k = j := by omega
      have HBW := Lib.hid (HB.out.trans (HBj.out.mono HB.out.size))
      generalize qB (firstQ n l PL k) = b0 at *
      go_wp2_with fail
      refine (HG.out _ HBW.out).mono ?_
      rintro e w5 ⟨rfl, hb⟩
      have HB5 := Lib.hid (HBW.out.trans (hb.mono HBW.out.size))
      clear hb
      go_wp2_with fail
      refine (HAW.out _ HB5.out).mono ?_
      rintro e w9 ⟨rfl, hb9⟩
      have HB9 := Lib.hid (HB5.out.trans (hb9.mono HB5.out.size))
      clear hb9
      go_wp2
      go_ret
      exact ⟨ret_bool (by simp), HB9.out⟩
set_option maxRecDepth 100000 in
theorem contract (H : Type) (enc : TypeId × Value → H) (W : World) (base : Nat) (args : Array Value) (ds gs : List (DataW H)) (before : List MemPlace)
    (hval : ∀ (j : Nat) t v, Tryd.f5.params[j]? = some t → args[j]? = some v → Value.okWide Tryd.prog W .any base t v)
    (hW : DataW.Whole enc Tryd.prog Tryd.f5.params.toList Rows.framesCorrespondSpec.vars false W args.toList ds gs before) (hE : Tab W) :
    Calls Tryd.prog 5 args W fun e W' => ∃ v, e = .returned v ∧ Rows.framesCorrespondSpec.post enc Tryd.prog Tryd.f5 false true false false W args v W' := by
  have hW' := hW
  obtain ⟨p, q, hA0, hV, rfl, hfz, hnd⟩ := hW
  have hA : DataW.TrodAll enc Tryd.prog W 0 (fun _ => true) true Tryd.f5.params.toList args.toList ds p := hA0
  rw [Tryd.params5] at hA hval
  obtain ⟨v0, vs0, d0, ds0, p0, q0, hargs, rfl, rfl, h0, r0⟩ := trodAll_cons hA
  obtain ⟨v1, vs1, d1, ds1, p1, q1, rfl, rfl, rfl, h1, r1⟩ := trodAll_cons r0
  obtain ⟨rfl, rfl, rfl⟩ := trodAll_nil r1
  obtain rfl : args = #[v0, v1] := by cases args; simp_all
  obtain ⟨rfl, rfl⟩ := trodVars_none hV
  obtain ⟨A0, n0, c0, l0, rfl, w0⟩ : ∃ A n c l, v0 = .slice A n c ∧ WRow W A n c l := by
    obtain ⟨fuel, hf⟩ := h0
    have hv9 := hval 0 22 v0 rfl rfl
    obtain ⟨A9, n9, c9, rfl⟩ := okWide_slice Tryd.underlying22 hv9
    exact open_words hf
  have k0 := h0
  have lt0 : ∀ x ∈ p0, x.block < W.heap.size := by obtain ⟨m, hm⟩ := k0; exact DataW.trod_lt m _ _ _ hm
  obtain ⟨g1, rfl, rfl, rfl, w1⟩ := open_int Tryd.underlying3 (hval 1 3 v1 rfl rfl) h1
  clear hA0
  simp only [List.append_nil] at hW'
  have hwalk := walk l0 A0 n0 c0 g1 W w0.1 w0.2.1 w0.2.2.2 hE
  refine hwalk.mono fun e W' ⟨he, hg⟩ => ?_
  subst he
  exact ⟨_, rfl, _, _, _, [], _, [], hW', trodAll_mk1 (shut_bool Tryd.underlying4 _), (trodAll_cons_mk (Below.trod laidOut (by kernel_rfl) (of_decide_eq_true (by kernel_rfl)) k0 hg lt0) (trodAll_cons_mk (shut_int Tryd.underlying3 w1) trodAll_mk0)), rfl, hg.frame _, fun h => by cases h⟩
theorem reads (os : Os) {H : Type} (enc : TypeId × Value → H) : ∃ places, DataW.whole enc Tryd.prog ((laidW os).forCall (fun _ _ => 0) ⟨#[], #[.slice none 0 0, .int .i64 0], []⟩).memory Tryd.f5.params.toList Rows.framesCorrespondSpec.vars false #[(.slice none 0 0 : Value), (.int .i64 0 : Value)].toList 8 = some ([.nil, .lit (.int .i64 0)], [], places) :=
  ⟨[], by kernel_rfl⟩
set_option maxRecDepth 100000 in
theorem lifted (os : Os) (started : os.Started) (H : Type) (enc : TypeId × Value → H) (F : Stop.Interp) :
    ReturnsInHanded {} Tryd.checked os 5 .any ((OpenSpec.ofChange Rows.framesCorrespondSpec).preRow enc Tryd.prog Tryd.f5 Rows.framesCorrespondRow.domain false Rows.framesCorrespondRow.laid) (((OpenSpec.ofChange Rows.framesCorrespondSpec).at F).post enc Tryd.prog Tryd.f5 false true false false) := by
  obtain ⟨places, hx⟩ := reads os enc
  refine returnsInHanded_of_row (C := Tryd.checked) (s := OpenSpec.ofChange Rows.framesCorrespondSpec) own started (by kernel_rfl) Tryd.func5
    (witness_row_atRef (enc := enc) (C := Tryd.checked) false (laidW os) #[.slice none 0 0, .int .i64 0] (laidW_os os) (vars_ok os _) (heap_ok os _) (by kernel_rfl)
      (OpenSpec.preRow_of_cond 8 hx (by kernel_rfl) (fun k hk => by cases hk) (by kernel_rfl) (laid_met os _))) ?_
  intro W base args ds gs before hval hW _ _ _ hL hsh _
  exact contract H enc W base args ds gs before hval hW (env_of hL)
theorem said : Rows.FramesCorrespondSaid :=
  OpenClaim.holds_of_cond 5 Tryd.f5 rfl rfl rfl rfl rfl rfl rfl ⟨rfl, rfl, rfl, rfl, rfl⟩ rfl rfl rfl rfl rfl (by kernel_rfl) Tryd.func5 (by kernel_rfl)
    (of_decide_eq_true (by kernel_rfl)) (by unfold Func.isWrapper; first | (rw [if_pos (by decide +kernel)]; kernel_rfl) | (rw [if_neg (by decide +kernel)]; exact ⟨rfl, rfl⟩))
    (fun os started H enc _ F => by rw [OpenClaim.pre_eq_preRow]; exact lifted os started H enc F)
theorem plain (f : FuncId) (fn : Func) (hf : Tryd.pinned.checked.prog.funcNamed "witting/wittinglaw15.FramesCorrespond" = some f) (hfn : Tryd.pinned.checked.prog.funcs[f]? = some fn) :
    false = Tryd.pinned.checked.prog.looks [] ∧ ∀ (j : Nat) t, fn.params[j]? = some t → Tryd.pinned.checked.prog.wantsStandIn t = false := by
  obtain rfl : f = 5 := Option.some.inj ((show Tryd.prog.funcNamed "witting/wittinglaw15.FramesCorrespond" = some 5 by kernel_rfl).symm.trans hf) |>.symm
  obtain rfl : fn = Tryd.f5 := (Option.some.inj (Tryd.func5.symm.trans hfn)).symm
  refine ⟨no_looks, fun j t ht => ?_⟩
  rw [Tryd.params5] at ht
  have hm : t ∈ [22, 3] := by simpa using Array.mem_of_getElem? ht
  have hall : ([22, 3].all fun u => !Tryd.prog.wantsStandIn u) = true := by kernel_rfl
  exact (show Tryd.prog.wantsStandIn t = false by simpa using List.all_eq_true.1 hall t hm)
theorem card : Rows.FramesCorrespondCardSaid :=
  Claim7.holds_tied_plain_at .later [] _ _ _ _ said (fun _ h => by cases h) (by kernel_rfl) (fun _ h => by cases h) framesCorrespond_row_tie rfl ⟨rfl, rfl⟩ (by kernel_rfl) rfl plain (by kernel_rfl)
#print axioms card
end Go.Proofs.YtkhalapppkhopaaDoor.framesCorrespond
