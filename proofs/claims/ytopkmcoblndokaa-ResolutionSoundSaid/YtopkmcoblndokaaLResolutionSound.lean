/- Layer 10: ResolutionSound. -/
import Derived.Test.YtopkmcoblndokaaNRr
namespace Go.Proofs.Ytopkmcoblndokaa.resolutionSound
open Go.ChangeShapes Go.WideShapes Go.ChangeAt Go.RowKit Go.Proofs.Ytopkmcoblndokaa Go.Proofs.Ws
set_option maxRecDepth 100000
set_option maxHeartbeats 4000000 in
theorem walk (n : Int) (l : List (List Int)) (A : Option Addr) (k cap : Nat) (s : List Ln) (A2 : Option Addr) (k2 cap2 : Nat) (w : World) (hR : ZsR w w.heap.size A k l) (hk : k ≤ maxLen) (hR2 : LnsR w w.heap.size A2 k2 s) (hk2 : k2 ≤ maxLen) :
    Calls Try.prog 9 #[.int .i64 n, .slice A k cap, .slice A2 k2 cap2] w fun e w' => e = .returned (.bool true) ∧ Below w.heap.size w w' := by
  have HB0 := Lib.hid (Below.refl w.heap.size w)
  have HAW : Hid (∀ W, Below w.heap.size w W → Calls Try.prog 11 #[] W fun e w' => e = .returned (.bool true) ∧ Below W.heap.size W w') := Lib.hid (fun W _ => awake_any W)
  have HFW : Hid (∀ W, Below w.heap.size w W → Calls Try.prog 17 #[.int .i64 n, .slice A k cap] W fun e w' => e = .returned (.bool (fewB n l)) ∧ W = w') := Lib.hid (fun W hb => xFew_any n l A k cap _ W (hR.below hb hb.size) hk)
  have HVR : Hid (∀ W, Below w.heap.size w W → Calls Try.prog 28 #[.int .i64 n, .slice A k cap, .slice A2 k2 cap2] W fun e w' => e = .returned (.int .i64 (verE n l s)) ∧ Below W.heap.size W w') := Lib.hid (fun W hb => xVerify_any n l s A k cap A2 k2 cap2 W (hR.below hb hb.size) hk (hR2.below hb hb.size) hk2)
  have hl := hR.len
  have hl2 := hR2.len
  cases hf : fewB n l with
  | false =>
    rw [hf] at HFW
    clear hf HVR hR hR2 hk hk2 hl hl2
    go_enter Try.func9, Try.ntmps9
    go_wp2_with fail
    refine (HFW.out _ HB0.out).mono ?_
    rintro e w1 ⟨rfl, rfl⟩
    go_wp2_with fail
    refine (HAW.out _ HB0.out).mono ?_
    rintro e w1 ⟨rfl, hb⟩
    have HB1 := Lib.hid (belowNext HB0.out hb)
    clear hb
    go_wp2
    go_ret
    exact ⟨rfl, HB1.out⟩
  | true =>
    rw [hf] at HFW
    unfold maxLen at hk2
    by_cases h200 : 200 < k2
    case pos =>
      have q1 : decide ((200 : Int) < (k2 : Int)) = true := decide_eq_true (by omega)
      have q2 : decide (200 < k2) = true := decide_eq_true (by omega)
      clear hf HVR hR hR2 hk hl hl2 h200
      go_enter Try.func9, Try.ntmps9
      go_wp2_with fail
      refine (HFW.out _ HB0.out).mono ?_
      rintro e w1 ⟨rfl, rfl⟩
      go_wp2_with fail
      refine (HAW.out _ HB0.out).mono ?_
      rintro e w1 ⟨rfl, hb⟩
      have HB1 := Lib.hid (belowNext HB0.out hb)
      clear hb
      go_wp2
      go_ret
      exact ⟨rfl, HB1.out⟩
    case neg =>
      have q1 : decide ((200 : Int) < (k2 : Int)) = false := decide_eq_false (by omega)
      have q2 : decide (200 < k2) = false := decide_eq_false (by omega)
      by_cases hz : verE n l s = 0
      case neg =>
        have hne : (verE n l s != 0) = true := by rw [bne_iff_ne]; exact hz
        generalize verE n l s = E at *
        clear hf hz hR hR2 hk hl hl2 h200
        go_enter Try.func9, Try.ntmps9
        go_wp2_with fail
        refine (HFW.out _ HB0.out).mono ?_
        rintro e w1 ⟨rfl, rfl⟩
        go_wp2_with fail
        refine (HVR.out _ HB0.out).mono ?_
        rintro e w1 ⟨rfl, hb⟩
        have HB1 := Lib.hid (belowNext HB0.out hb)
        clear hb
        go_wp2_with fail
        refine (HAW.out _ HB1.out).mono ?_
        rintro e w2 ⟨rfl, hb⟩
        have HB2 := Lib.hid (belowNext HB1.out hb)
        clear hb
        go_wp2
        go_ret
        exact ⟨rfl, HB2.out⟩
      case pos =>
        rw [hz] at HVR
        obtain ⟨hc, hrf⟩ := ver_refut hz
        obtain ⟨m, rfl, hm, hln, hcl⟩ := chkR_ok hc
        obtain ⟨P, hP⟩ : ∃ P : Nat, 2 ^ m = P := ⟨_, rfl⟩
        obtain ⟨hsh, hPle⟩ := pow_shift hm hP
        have HU : Hid (∀ V, satB V l = false) := Lib.hid (fun V => by
          rw [Bool.eq_false_iff]; intro h; exact refut_sound (V := V) hrf (satB_iff.1 h))
        have hne : 0 < k2 := by
          have := hrf.2.1
          rcases Nat.eq_zero_or_pos k2 with e | e
          · exact absurd (List.eq_nil_of_length_eq_zero (hl2.trans e)) this
          · exact e
        have q3 : decide ((0 : Int) < (k2 : Int)) = true := decide_eq_true (by omega)
        have q4 : decide ((m : Int) < 0) = false := decide_eq_false (by omega)
        have hS := small_of hm hcl
        have HSF : Hid (∀ (V j : Nat) (W : World) (Aj : Option Addr) (nj cj : Nat), V < 4096 → j < k → Reads W W.heap.size 1 Aj nj (ints (l.getD j [])) → nj ≤ maxLen → Calls Try.prog 31 #[.slice Aj nj cj, .int .i64 (V : Int)] W fun e w' => e = .returned (.bool ((l.getD j []).any (litT V))) ∧ Below W.heap.size W w') := Lib.hid (fun V j W Aj nj cj hV hj h hn => xSfd_any V (l.getD j []) Aj nj cj _ W hV (hS _ (getDZ_mem (by omega))).1 h hn)
        have HSH := Lib.hid hsh
        have HR := Lib.hid hR
        have HL := Lib.hid hl
        have hk64 : k ≤ 64 := by omega
        clear hf hz hrf hc hln hcl hP hS hsh hR hR2 hl hl2 h200
        go_enter Try.func9, Try.ntmps9
        go_wp2_with fail
        refine (HFW.out _ HB0.out).mono ?_
        rintro e w1 ⟨rfl, rfl⟩
        go_wp2_with fail
        refine (HVR.out _ HB0.out).mono ?_
        rintro e w1 ⟨rfl, hb⟩
        have HB1 := Lib.hid (belowNext HB0.out hb)
        clear hb
        go_wp2
        rw [HSH.out]
        clear HSH
        go_loopw [35] (fun i wr => ∃ v : Nat, v ≤ P ∧ i = .int .i64 v ∧ Hid (Below w.heap.size w wr)) (fun i _ => P - (intOf i).toNat)
        case atStart => exact ⟨0, Nat.zero_le _, rfl, HB1⟩
        case round =>
          obtain ⟨v, hv, rfl, HO⟩ := hrel
          by_cases hlt : v < P
          · go_wp2
            go_loopw [8, 40] (fun b i wr2 => ∃ (j : Nat) (bb : Bool), j ≤ k ∧ i = .int .i64 j ∧ b = .bool bb ∧ Hid (satB v l = (bb && satB v (l.drop j))) ∧ Hid (Below w.heap.size w wr2)) (fun _ i _ => k - (intOf i).toNat)
            case atStart => exact ⟨0, true, Nat.zero_le _, rfl, rfl, Lib.hid (by rw [Bool.true_and]; rfl), HO⟩
            case round =>
              obtain ⟨j, bb, hj, rfl, rfl, HI, HO2⟩ := hrel
              by_cases hltj : j < k
              · obtain ⟨ad, Aj, cj, rfl, _, hcj, hrj, hlj⟩ := (HR.out.below HO2.out HO2.out.size).at_ hltj
                have HD := Lib.hid (dropZ l j (by have := HL.out; omega))
                have HSJ := Lib.hid (HSF.out v j _ Aj _ cj (by omega) hltj hrj hlj)
                have HI3 : Hid (satB v (l.drop j) = ((l.getD j []).any (litT v) && satB v (l.drop (j + 1)))) := Lib.hid (by rw [HD.out]; rfl)
                generalize (l.getD j []).any (litT v) = b2 at *
                generalize (l.getD j []).length = nj at *
                clear hrj HD
                cases bb with
                | false =>
                  go_wp2
                  go_roundw
                  case rel => exact ⟨j + 1, false, by omega, by go_num, rfl, Lib.hid (by rw [HI.out]; rfl), HO2⟩
                  case measure => first | (simp [intOf]; done) | (simp [intOf]; omega)
                | true =>
                  go_wp2_with fail
                  refine HSJ.out.mono ?_
                  rintro e w5 ⟨rfl, hb⟩
                  have HO3 := Lib.hid (belowNext HO2.out hb)
                  clear hb
                  go_wp2
                  go_roundw
                  case rel => exact ⟨j + 1, b2, by omega, by go_num, rfl, Lib.hid (by rw [HI.out, HI3.out, Bool.true_and]), HO3⟩
                  case measure => first | (simp [intOf]; done) | (simp [intOf]; omega)
              · have hbb : bb = false := by
                  have h1 := HI.out
                  rw [HU.out v, List.drop_eq_nil_of_le (by have := HL.out; omega)] at h1
                  cases bb
                  · rfl
                  · rw [show satB v [] = true from rfl] at h1; cases h1
                subst hbb
                go_wp2
                go_roundw
                case rel => exact ⟨v + 1, by omega, by go_num, HO2⟩
                case measure => first | (simp [intOf]; done) | (simp [intOf]; omega)
          · go_wp2_with fail
            refine (HAW.out _ HO.out).mono ?_
            rintro e w9 ⟨rfl, hb⟩
            have HB9 := Lib.hid (belowNext HO.out hb)
            clear hb
            go_wp2
            go_ret
            exact ⟨rfl, HB9.out⟩
theorem contract (H : Type) (enc : TypeId × Value → H) (W : World) (base : Nat) (args : Array Value) (ds gs : List (DataW H)) (before : List MemPlace)
    (hval : ∀ (j : Nat) t v, Try.f9.params[j]? = some t → args[j]? = some v → Value.okWide Try.prog W .any base t v)
    (hW : DataW.Whole enc Try.prog Try.f9.params.toList Rows.resolutionSoundSpec.vars false W args.toList ds gs before) :
    Calls Try.prog 9 args W fun e W' => ∃ v, e = .returned v ∧ Rows.resolutionSoundSpec.post enc Try.prog Try.f9 false true false false W args v W' := by
  have hW' := hW
  obtain ⟨p, q, hA0, hV, rfl, hfz, hnd⟩ := hW
  have hA : DataW.TrodAll enc Try.prog W 0 (fun _ => true) true Try.f9.params.toList args.toList ds p := hA0
  rw [Try.params9] at hA hval
  obtain ⟨v0, vs0, d0, ds0, p0, q0, hargs, rfl, rfl, h0, r0⟩ := trodAll_cons hA
  obtain ⟨v1, vs1, d1, ds1, p1, q1, rfl, rfl, rfl, h1, r1⟩ := trodAll_cons r0
  obtain ⟨v2, vs2, d2, ds2, p2, q2, rfl, rfl, rfl, h2, r2⟩ := trodAll_cons r1
  obtain ⟨rfl, rfl, rfl⟩ := trodAll_nil r2
  obtain rfl : args = #[v0, v1, v2] := by cases args; simp_all
  obtain ⟨rfl, rfl⟩ := trodVars_none hV
  obtain ⟨z0, rfl⟩ := okWide_int Try.underlying3 (hval 0 3 v0 rfl rfl)
  have k0 := h0
  have lt0 : ∀ x ∈ p0, x.block < W.heap.size := by obtain ⟨m, hm⟩ := k0; exact DataW.trod_lt m _ _ _ hm
  have k10 := h1
  obtain ⟨fuel1, hf1⟩ := k10
  obtain ⟨Aq1, nq1, cq1, rfl⟩ := okWide_slice Try.underlying22 (hval 1 22 v1 rfl rfl)
  obtain ⟨A1, n1, c1, z1, ev1, w1, m1⟩ := open_rows (v := .slice Aq1 nq1 cq1) hf1
  injection ev1 with ea1 eb1 ec1
  subst ea1 eb1 ec1
  have k1 := h1
  have lt1 : ∀ x ∈ p1, x.block < W.heap.size := by obtain ⟨m, hm⟩ := k1; exact DataW.trod_lt m _ _ _ hm
  have k20 := h2
  obtain ⟨fuel2, hf2⟩ := k20
  obtain ⟨Aq2, nq2, cq2, rfl⟩ := okWide_slice Try.underlying41 (hval 2 41 v2 rfl rfl)
  obtain ⟨A2, n2, c2, z2, ev2, w2, m2⟩ := open_lines (v := .slice Aq2 nq2 cq2) hf2
  injection ev2 with ea2 eb2 ec2
  subst ea2 eb2 ec2
  have k2 := h2
  have lt2 : ∀ x ∈ p2, x.block < W.heap.size := by obtain ⟨m, hm⟩ := k2; exact DataW.trod_lt m _ _ _ hm
  clear hA0
  have hwalk := walk z0 z1 Aq1 nq1 cq1 z2 Aq2 nq2 cq2 W w1 m1 w2 m2
  refine hwalk.mono fun e W' ⟨he, hg⟩ => ?_
  subst he
  exact ⟨_, rfl, _, _, _, [], _, [], hW', trodAll_mk1 (shut_bool Try.underlying4 _), (trodAll_cons_mk (Below.trod laidOut (by kernel_rfl) (of_decide_eq_true (by kernel_rfl)) k0 hg lt0) (trodAll_cons_mk (Below.trod laidOut (by kernel_rfl) (of_decide_eq_true (by kernel_rfl)) k1 hg lt1) (trodAll_cons_mk (Below.trod laidOut (by kernel_rfl) (of_decide_eq_true (by kernel_rfl)) k2 hg lt2) trodAll_mk0))), rfl, hg.frame _, fun h => by cases h⟩
theorem reads (os : Os) {H : Type} (enc : TypeId × Value → H) : ∃ places, DataW.whole enc Try.prog ((laidW os).forCall (fun _ _ => 0) ⟨#[], #[.int .i64 0, .slice none 0 0, .slice none 0 0], []⟩).memory Try.f9.params.toList Rows.resolutionSoundSpec.vars false #[Value.int .i64 0, Value.slice none 0 0, Value.slice none 0 0].toList 8 = some ([.lit (.int .i64 0), .nil, .nil], [], places) :=
  ⟨[], by kernel_rfl⟩
theorem lifted (os : Os) (started : os.Started) (H : Type) (enc : TypeId × Value → H) (F : Stop.Interp) :
    ReturnsInHanded {} Try.checked os 9 .any ((OpenSpec.ofChange Rows.resolutionSoundSpec).preRow enc Try.prog Try.f9 Rows.resolutionSoundRow.domain false Rows.resolutionSoundRow.laid) (((OpenSpec.ofChange Rows.resolutionSoundSpec).at F).post enc Try.prog Try.f9 false true false false) := by
  obtain ⟨places, hx⟩ := reads os enc
  refine returnsInHanded_of_row (C := Try.checked) (s := OpenSpec.ofChange Rows.resolutionSoundSpec) own started (by kernel_rfl) Try.func9
    (witness_row_at (enc := enc) (C := Try.checked) false (laidW os) #[.int .i64 0, .slice none 0 0, .slice none 0 0] (laidW_os os) (vars_ok os _) (heap_ok os _) (by kernel_rfl)
      (OpenSpec.preRow_of_cond 8 hx (by kernel_rfl) (fun k hk => by cases hk) (by kernel_rfl) (laid_met os _))) ?_
  intro W base args ds gs before hval hW _ _ _ _ _ _
  exact contract H enc W base args ds gs before hval hW
theorem said : Rows.ResolutionSoundSaid :=
  OpenClaim.holds_of_cond 9 Try.f9 rfl rfl rfl rfl rfl rfl rfl ⟨rfl, rfl, rfl, rfl, rfl⟩ rfl rfl rfl rfl rfl (by kernel_rfl) Try.func9 (by kernel_rfl)
    (of_decide_eq_true (by kernel_rfl)) (by unfold Func.isWrapper; first | (rw [if_pos (by decide +kernel)]; kernel_rfl) | (rw [if_neg (by decide +kernel)]; exact ⟨rfl, rfl⟩))
    (fun os started H enc _ F => by rw [OpenClaim.pre_eq_preRow]; exact lifted os started H enc F)
#print axioms said
end Go.Proofs.Ytopkmcoblndokaa.resolutionSound
