/- Layer 10: ResolutionUnits. -/
import Derived.Test.YtopkmcoblndokaaNRs
namespace Go.Proofs.Ytopkmcoblndokaa.resolutionUnits
open Go.ChangeShapes Go.WideShapes Go.ChangeAt Go.RowKit Go.Proofs.Ytopkmcoblndokaa Go.Proofs.Ws
set_option maxRecDepth 100000
theorem sfd_one (V : Nat) (x : Int) (g : Nat) (W : World) (hV : V < 4096) (hx : x ≠ 0 ∧ -12 ≤ x ∧ x ≤ 12) (h : HoldsI W g [x]) :
    Calls Try.prog 31 #[.slice (some ⟨g, 0, none⟩) 1 1, .int .i64 (V : Int)] W fun e w' => e = .returned (.bool (litT V x)) ∧ Below W.heap.size W w' := by
  have h := xSfd_any V [x] (some ⟨g, 0, none⟩) 1 1 W.heap.size W hV (fun y hy => by rw [List.mem_singleton.1 hy]; exact hx) h.reads (by unfold maxLen; omega)
  rw [List.any_cons, List.any_nil, Bool.or_false] at h
  exact h
set_option maxHeartbeats 8000000 in
theorem walk (n : Int) (l : List (List Int)) (A : Option Addr) (k cap : Nat) (fx : List Int) (A2 : Option Addr) (k2 cap2 : Nat) (w : World) (hR : ZsR w w.heap.size A k l) (hk : k ≤ maxLen) (hR2 : IRow w A2 k2 cap2 fx) :
    Calls Try.prog 10 #[.int .i64 n, .slice A k cap, .slice A2 k2 cap2] w fun e w' => e = .returned (.bool true) ∧ Below w.heap.size w w' := by
  have HB0 := Lib.hid (Below.refl w.heap.size w)
  have HAW : Hid (∀ W, Below w.heap.size w W → Calls Try.prog 11 #[] W fun e w' => e = .returned (.bool true) ∧ Below W.heap.size W w') := Lib.hid (fun W _ => awake_any W)
  have HFW : Hid (∀ W, Below w.heap.size w W → Calls Try.prog 17 #[.int .i64 n, .slice A k cap] W fun e w' => e = .returned (.bool (fewB n l)) ∧ W = w') := Lib.hid (fun W hb => xFew_any n l A k cap _ W (hR.below hb hb.size) hk)
  have HPP : Hid (∀ W, Below w.heap.size w W → Calls Try.prog 24 #[.int .i64 n, .slice A k cap, .slice A2 k2 cap2] W fun e w' => GivesP n l fx W e w') := Lib.hid (fun W hb => xPropagate_any n l fx A k cap A2 k2 cap2 W (hR.below hb hb.size) hk ((hR2.1.below hb).more hb.size) hR2.2.2)
  have hl := hR.len
  have hl2 := hR2.1.int_len
  have hm2 := hR2.2.2
  unfold maxLen at hm2
  cases hf : fewB n l with
  | false =>
    rw [hf] at HFW
    clear hf HPP hR hR2 hk hl hl2 hm2
    go_enter Try.func10, Try.ntmps10
    go_wp2_with fail
    refine (HFW.out _ HB0.out).mono ?_
    rintro e w1 ⟨rfl, rfl⟩
    go_wp2_with fail
    refine (HAW.out _ HB0.out).mono ?_
    rintro e w1 ⟨rfl, hb⟩
    have HB1 := Lib.hid (belowNext HB0.out hb)
    clear hb
    go_wp2
    go_ret
    exact ⟨rfl, HB1.out⟩
  | true =>
    rw [hf] at HFW
    by_cases h20 : 20 < k2
    case pos =>
      have q1 : decide ((20 : Int) < (k2 : Int)) = true := decide_eq_true (by omega)
      have q2 : decide (20 < k2) = true := decide_eq_true (by omega)
      clear hf HPP hR hR2 hk hl hl2 h20
      go_enter Try.func10, Try.ntmps10
      go_wp2_with fail
      refine (HFW.out _ HB0.out).mono ?_
      rintro e w1 ⟨rfl, rfl⟩
      go_wp2_with fail
      refine (HAW.out _ HB0.out).mono ?_
      rintro e w1 ⟨rfl, hb⟩
      have HB1 := Lib.hid (belowNext HB0.out hb)
      clear hb
      go_wp2
      go_ret
      exact ⟨rfl, HB1.out⟩
    case neg =>
      have q1 : decide ((20 : Int) < (k2 : Int)) = false := decide_eq_false (by omega)
      have q2 : decide (20 < k2) = false := decide_eq_false (by omega)
      by_cases hn : n < 0
      case pos =>
        have q3 : decide (n < 0) = true := decide_eq_true hn
        clear hf HPP hR hR2 hk hl hl2 h20 hn
        go_enter Try.func10, Try.ntmps10
        go_wp2_with fail
        refine (HFW.out _ HB0.out).mono ?_
        rintro e w1 ⟨rfl, rfl⟩
        go_wp2_with fail
        refine (HAW.out _ HB0.out).mono ?_
        rintro e w1 ⟨rfl, hb⟩
        have HB1 := Lib.hid (belowNext HB0.out hb)
        clear hb
        go_wp2
        go_ret
        exact ⟨rfl, HB1.out⟩
      case neg =>
        have q3 : decide (n < 0) = false := decide_eq_false hn
        by_cases hz : ppE n l fx = 0
        case neg =>
          have hne : (ppE n l fx != 0) = true := by rw [bne_iff_ne]; exact hz
          have HPP := Lib.hid (fun W hb => (HPP.out W hb).mono (fun e w' (h : GivesP n l fx W e w') => (by obtain ⟨A3, c3, L3, i3, h1, _, _, _, h5⟩ := h; exact ⟨A3, L3.length, c3, i3, h1, h5⟩ : ∃ A3 n3 c3 i3, e = .returned (.tuple #[.slice A3 n3 c3, .int .i64 i3, .int .i64 (ppE n l fx)]) ∧ Below W.heap.size W w')))
          generalize ppE n l fx = E at *
          clear hf hz hR hR2 hk hl hl2 h20 hn
          go_enter Try.func10, Try.ntmps10
          go_wp2_with fail
          refine (HFW.out _ HB0.out).mono ?_
          rintro e w1 ⟨rfl, rfl⟩
          go_wp2_with fail
          refine (HPP.out _ HB0.out).mono ?_
          rintro e w1 ⟨A3, n3, c3, i3, rfl, hb⟩
          have HB1 := Lib.hid (belowNext HB0.out hb)
          clear hb
          go_wp2_with fail
          refine (HAW.out _ HB1.out).mono ?_
          rintro e w2 ⟨rfl, hb⟩
          have HB2 := Lib.hid (belowNext HB1.out hb)
          clear hb
          go_wp2
          go_ret
          exact ⟨rfl, HB2.out⟩
        case pos =>
          have hc : chkR n l = 0 := by
            unfold ppE at hz
            split at hz
            · assumption
            · rename_i h; exact absurd hz h
          have hfc : clE n fx = 0 := by
            unfold ppE at hz
            rw [if_pos hc] at hz
            split at hz
            · assumption
            · cases hz
          obtain ⟨m, rfl, hm, hln, hcl⟩ := chkR_ok hc
          have hfok := clE_ok.1 hfc
          obtain ⟨P, hP⟩ : ∃ P : Nat, 2 ^ m = P := ⟨_, rfl⟩
          obtain ⟨hsh, hPle⟩ := pow_shift hm hP
          have HPQ := Lib.hid (fun W hb => (HPP.out W hb).mono (fun e w' (h : GivesP m l fx W e w') => (by
            obtain ⟨A3, c3, L3, i3, h1, h2, _, h4, h5⟩ := h
            obtain ⟨u, h6, rfl⟩ := h4 hz
            obtain ⟨g1, g2, g3, g4, g5⟩ := units_ok hcl hfok hm h6
            rw [hz] at h1
            exact ⟨A3, c3, _, i3, h1, h2, g1, g2, g3, g4, g5, h5⟩ : ∃ A3 c3 L3 i3, e = .returned (.tuple #[.slice A3 L3.length c3, .int .i64 i3, .int .i64 0]) ∧ OwJ w' W.heap.size A3 L3 ∧ -1 ≤ i3 ∧ i3 < (l.length : Int) ∧ L3.length ≤ m ∧ (∀ x ∈ L3, x ≠ 0 ∧ -12 ≤ x ∧ x ≤ 12) ∧ (∀ V, satB V l = true → fx.all (litT V) = true → i3 = -1 ∧ L3.all (litT V) = true) ∧ Below W.heap.size W w')))
          have hS := small_of hm hcl
          have HSF : Hid (∀ (V j : Nat) (W : World) (Aj : Option Addr) (nj cj : Nat), V < 4096 → j < k → Reads W W.heap.size 1 Aj nj (ints (l.getD j [])) → nj ≤ maxLen → Calls Try.prog 31 #[.slice Aj nj cj, .int .i64 (V : Int)] W fun e w' => e = .returned (.bool ((l.getD j []).any (litT V))) ∧ Below W.heap.size W w') := Lib.hid (fun V j W Aj nj cj hV hj h hn => xSfd_any V (l.getD j []) Aj nj cj _ W hV (hS _ (getDZ_mem (by omega))).1 h hn)
          have HSX := Lib.hid sfd_one
          have HFX : Hid (∀ x ∈ fx, x ≠ 0 ∧ -12 ≤ x ∧ x ≤ 12) := Lib.hid (fun x hx => by have := hfok.lits x hx; omega)
          have HSH := Lib.hid hsh
          have HR := Lib.hid hR
          have HR2 := Lib.hid hR2.1
          have HL := Lib.hid hl
          have HL2 := Lib.hid hl2
          have hk64 : k ≤ 64 := by omega
          have hk20 : k2 ≤ 20 := by omega
          clear HPP hf hz hc hfc hfok hln hcl hP hS hsh hR hR2 hl hl2 h20 hm2 hk
          go_enter Try.func10, Try.ntmps10
          go_wp2_with fail
          refine (HFW.out _ HB0.out).mono ?_
          rintro e w1 ⟨rfl, rfl⟩
          go_wp2_with fail
          refine (HPQ.out _ HB0.out).mono ?_
          rintro e w3 ⟨A3, c3, L3, i3, rfl, ho3, hi1, hi2, hL3, hx3, hu3, hb⟩
          have HB3 := Lib.hid (belowNext HB0.out hb)
          have HO3 := Lib.hid ho3
          have HX3 := Lib.hid hx3
          have HU3 := Lib.hid hu3
          rw [HL.out] at hi2
          have HR3 := Lib.hid (HR.out.below HB3.out HB3.out.size)
          have HR23 := Lib.hid ((HR2.out.below HB3.out).more HB3.out.size)
          clear hb ho3 hx3 hu3 HB0 HPQ HFW HR HR2
          have hL12 : L3.length ≤ 12 := by omega
          obtain ⟨nL, HNL⟩ : ∃ nL, Hid (L3.length = nL) := ⟨_, Lib.hid rfl⟩
          rw [HNL.out] at hL3 hL12 ⊢
          have p1 : decide (i3 < -1) = false := decide_eq_false (by omega)
          have p2 : decide ((k : Int) ≤ i3) = false := decide_eq_false (by omega)
          have p3 : decide ((m : Int) < (nL : Int)) = false := decide_eq_false (by omega)
          have p4 : decide (m < nL) = false := decide_eq_false (by omega)
          clear hi1 hi2
          go_wp2
          rw [HSH.out]
          clear HSH p1 p2 p3 p4
          go_loopw [60] (fun i wr => ∃ v : Nat, v ≤ P ∧ i = .int .i64 v ∧ Hid (Below w3.heap.size w3 wr)) (fun i _ => P - (intOf i).toNat)
          case atStart => exact ⟨0, Nat.zero_le _, rfl, Lib.hid (Below.refl _ _)⟩
          case round =>
            obtain ⟨v, hv, rfl, HO⟩ := hrel
            by_cases hlt : v < P
            · go_wp2
              go_loopw [11, 65] (fun b i wr2 => ∃ (j : Nat) (bb : Bool), j ≤ k ∧ i = .int .i64 j ∧ b = .bool bb ∧ Hid (satB v l = (bb && satB v (l.drop j))) ∧ Hid (Below w3.heap.size w3 wr2)) (fun _ i _ => k - (intOf i).toNat)
              case atStart => exact ⟨0, true, Nat.zero_le _, rfl, rfl, Lib.hid (by rw [Bool.true_and]; rfl), HO⟩
              case round =>
                obtain ⟨j, bb, hj, rfl, rfl, HI, HO2⟩ := hrel
                by_cases hltj : j < k
                · obtain ⟨ad, Aj, cj, rfl, _, hcj, hrj, hlj⟩ := (HR3.out.below HO2.out HO2.out.size).at_ hltj
                  have HD := Lib.hid (dropZ l j (by have := HL.out; omega))
                  have HSJ := Lib.hid (HSF.out v j _ Aj _ cj (by omega) hltj hrj hlj)
                  have HI3 : Hid (satB v (l.drop j) = ((l.getD j []).any (litT v) && satB v (l.drop (j + 1)))) := Lib.hid (by rw [HD.out]; rfl)
                  generalize (l.getD j []).any (litT v) = b2 at *
                  generalize (l.getD j []).length = nj at *
                  clear hrj HD
                  cases bb with
                  | false =>
                    go_wp2
                    go_roundw
                    case rel => exact ⟨j + 1, false, by omega, by go_num, rfl, Lib.hid (by rw [HI.out]; rfl), HO2⟩
                    case measure => first | (simp [intOf]; done) | (simp [intOf]; omega)
                  | true =>
                    go_wp2_with fail
                    refine HSJ.out.mono ?_
                    rintro e w5 ⟨rfl, hb⟩
                    have HO3 := Lib.hid (belowNext HO2.out hb)
                    clear hb
                    go_wp2
                    go_roundw
                    case rel => exact ⟨j + 1, b2, by omega, by go_num, rfl, Lib.hid (by rw [HI.out, HI3.out, Bool.true_and]), HO3⟩
                    case measure => first | (simp [intOf]; done) | (simp [intOf]; omega)
                · have hbb : satB v l = bb := by
                    have h1 := HI.out
                    rw [List.drop_eq_nil_of_le (by have := HL.out; omega), show satB v [] = true from rfl, Bool.and_true] at h1
                    exact h1
                  have HBB := Lib.hid hbb
                  clear hbb HI
                  go_wp2
                  go_loopw [11, 78] (fun b i wr2 => ∃ (j2 : Nat) (b5 : Bool), j2 ≤ k2 ∧ i = .int .i64 j2 ∧ b = .bool b5 ∧ Hid ((bb && fx.all (litT v)) = (b5 && (fx.drop j2).all (litT v))) ∧ Hid (Below w3.heap.size w3 wr2)) (fun _ i _ => k2 - (intOf i).toNat)
                  case atStart => exact ⟨0, bb, Nat.zero_le _, rfl, rfl, Lib.hid rfl, HO2⟩
                  case round =>
                    obtain ⟨j2, b5, hj2, rfl, rfl, HI5, HO5⟩ := hrel
                    by_cases hlt2 : j2 < k2
                    · obtain ⟨ad2, rfl, _, hcj2⟩ := (HR23.out.below HO5.out).int_at hlt2
                      have HD := Lib.hid (drop_getD fx j2 (by have := HL2.out; omega))
                      have hx := HFX.out (fx.getD j2 0) (getD_mem0 (by have := HL2.out; omega))
                      have HI6 : Hid ((fx.drop j2).all (litT v) = (litT v (fx.getD j2 0) && (fx.drop (j2 + 1)).all (litT v))) := Lib.hid (by rw [HD.out]; rfl)
                      generalize fx.getD j2 0 = x at *
                      cases b5 with
                      | false =>
                        clear hx
                        go_wp2
                        go_roundw
                        case rel => exact ⟨j2 + 1, false, by omega, by go_num, rfl, Lib.hid (by rw [HI5.out]; rfl), HO5⟩
                        case measure => first | (simp [intOf]; done) | (simp [intOf]; omega)
                      | true =>
                        obtain ⟨w6, e6, d6, b6, _⟩ := lit1 wr x
                        have HE6 := Lib.hid e6
                        have HO6 := Lib.hid (belowNext HO5.out b6)
                        have HSJ := Lib.hid (HSX.out v x _ w6 (by omega) hx d6)
                        generalize litT v x = bx at *
                        clear e6 d6 b6 hx
                        go_wp2_with fail
                        rw [HE6.out]
                        refine HSJ.out.mono ?_
                        rintro e w7 ⟨rfl, hb⟩
                        have HO7 := Lib.hid (belowNext HO6.out hb)
                        clear hb
                        go_wp2
                        go_roundw
                        case rel => exact ⟨j2 + 1, bx, by omega, by go_num, rfl, Lib.hid (by rw [HI5.out, HI6.out, Bool.true_and]), HO7⟩
                        case measure => first | (simp [intOf]; done) | (simp [intOf]; omega)
                    · have hb5 : (bb && fx.all (litT v)) = b5 := by
                        have h1 := HI5.out
                        rw [List.drop_eq_nil_of_le (by have := HL2.out; omega), List.all_nil, Bool.and_true] at h1
                        exact h1
                      cases b5 with
                      | false =>
                        clear hb5
                        go_wp2
                        go_roundw
                        case rel => exact ⟨v + 1, by omega, by go_num, HO5⟩
                        case measure => first | (simp [intOf]; done) | (simp [intOf]; omega)
                      | true =>
                        rw [Bool.and_eq_true] at hb5
                        obtain ⟨rfl, hall⟩ := HU3.out v (by rw [HBB.out]; exact hb5.1) hb5.2
                        have HALL := Lib.hid hall
                        clear hb5 hall
                        go_wp2
                        go_loopw [96] (fun i wr2 => ∃ j3 : Nat, j3 ≤ nL ∧ i = .int .i64 j3 ∧ Hid (Below w3.heap.size w3 wr2)) (fun i _ => nL - (intOf i).toNat)
                        case atStart => exact ⟨0, Nat.zero_le _, rfl, HO5⟩
                        case round =>
                          obtain ⟨j3, hj3, rfl, HO8⟩ := hrel
                          by_cases hlt3 : j3 < nL
                          · have hr3 := (HO3.out.below HO8.out).reads
                            rw [HNL.out] at hr3
                            obtain ⟨ad3, rfl, _, hcj3⟩ := hr3.int_at hlt3
                            have hmem := getD_mem0 (l := L3) (k := j3) (by have := HNL.out; omega)
                            have hx := HX3.out _ hmem
                            have hlx := List.all_eq_true.1 HALL.out _ hmem
                            clear hmem hr3
                            generalize L3.getD j3 0 = x at *
                            obtain ⟨w6, e6, d6, b6, _⟩ := lit1 wr x
                            have HE6 := Lib.hid e6
                            have HO6 := Lib.hid (belowNext HO8.out b6)
                            have HSJ := HSX.out v x _ w6 (by omega) hx d6
                            rw [hlx] at HSJ
                            have HSJ := Lib.hid HSJ
                            clear e6 d6 b6 hx hlx
                            go_wp2_with fail
                            rw [HE6.out]
                            refine HSJ.out.mono ?_
                            rintro e w7 ⟨rfl, hb⟩
                            have HO7 := Lib.hid (belowNext HO6.out hb)
                            clear hb
                            go_wp2
                            go_roundw
                            case rel => exact ⟨j3 + 1, by omega, by go_num, HO7⟩
                            case measure => first | (simp [intOf]; done) | (simp [intOf]; omega)
                          · go_wp2
                            go_roundw
                            case rel => exact ⟨v + 1, by omega, by go_num, HO8⟩
                            case measure => first | (simp [intOf]; done) | (simp [intOf]; omega)
            · have HB4 := Lib.hid (belowNext HB3.out HO.out)
              go_wp2_with fail
              refine (HAW.out _ HB4.out).mono ?_
              rintro e w9 ⟨rfl, hb⟩
              have HB9 := Lib.hid (belowNext HB4.out hb)
              clear hb
              go_wp2
              go_ret
              exact ⟨rfl, HB9.out⟩
theorem contract (H : Type) (enc : TypeId × Value → H) (W : World) (base : Nat) (args : Array Value) (ds gs : List (DataW H)) (before : List MemPlace)
    (hval : ∀ (j : Nat) t v, Try.f10.params[j]? = some t → args[j]? = some v → Value.okWide Try.prog W .any base t v)
    (hW : DataW.Whole enc Try.prog Try.f10.params.toList Rows.resolutionUnitsSpec.vars false W args.toList ds gs before) :
    Calls Try.prog 10 args W fun e W' => ∃ v, e = .returned v ∧ Rows.resolutionUnitsSpec.post enc Try.prog Try.f10 false true false false W args v W' := by
  have hW' := hW
  obtain ⟨p, q, hA0, hV, rfl, hfz, hnd⟩ := hW
  have hA : DataW.TrodAll enc Try.prog W 0 (fun _ => true) true Try.f10.params.toList args.toList ds p := hA0
  rw [Try.params10] at hA hval
  obtain ⟨v0, vs0, d0, ds0, p0, q0, hargs, rfl, rfl, h0, r0⟩ := trodAll_cons hA
  obtain ⟨v1, vs1, d1, ds1, p1, q1, rfl, rfl, rfl, h1, r1⟩ := trodAll_cons r0
  obtain ⟨v2, vs2, d2, ds2, p2, q2, rfl, rfl, rfl, h2, r2⟩ := trodAll_cons r1
  obtain ⟨rfl, rfl, rfl⟩ := trodAll_nil r2
  obtain rfl : args = #[v0, v1, v2] := by cases args; simp_all
  obtain ⟨rfl, rfl⟩ := trodVars_none hV
  obtain ⟨z0, rfl⟩ := okWide_int Try.underlying3 (hval 0 3 v0 rfl rfl)
  have k0 := h0
  have lt0 : ∀ x ∈ p0, x.block < W.heap.size := by obtain ⟨m, hm⟩ := k0; exact DataW.trod_lt m _ _ _ hm
  have k10 := h1
  obtain ⟨fuel1, hf1⟩ := k10
  obtain ⟨Aq1, nq1, cq1, rfl⟩ := okWide_slice Try.underlying22 (hval 1 22 v1 rfl rfl)
  obtain ⟨A1, n1, c1, z1, ev1, w1, m1⟩ := open_rows (v := .slice Aq1 nq1 cq1) hf1
  injection ev1 with ea1 eb1 ec1
  subst ea1 eb1 ec1
  have k1 := h1
  have lt1 : ∀ x ∈ p1, x.block < W.heap.size := by obtain ⟨m, hm⟩ := k1; exact DataW.trod_lt m _ _ _ hm
  have k20 := h2
  obtain ⟨fuel2, hf2⟩ := k20
  obtain ⟨Aq2, nq2, cq2, rfl⟩ := okWide_slice Try.underlying23 (hval 2 23 v2 rfl rfl)
  obtain ⟨A2, n2, c2, z2, ev2, w2⟩ := open_is0 (v := .slice Aq2 nq2 cq2) hf2
  injection ev2 with ea2 eb2 ec2
  subst ea2 eb2 ec2
  have k2 := h2
  have lt2 : ∀ x ∈ p2, x.block < W.heap.size := by obtain ⟨m, hm⟩ := k2; exact DataW.trod_lt m _ _ _ hm
  clear hA0
  have hwalk := walk z0 z1 Aq1 nq1 cq1 z2 Aq2 nq2 cq2 W w1 m1 w2
  refine hwalk.mono fun e W' ⟨he, hg⟩ => ?_
  subst he
  exact ⟨_, rfl, _, _, _, [], _, [], hW', trodAll_mk1 (shut_bool Try.underlying4 _), (trodAll_cons_mk (Below.trod laidOut (by kernel_rfl) (of_decide_eq_true (by kernel_rfl)) k0 hg lt0) (trodAll_cons_mk (Below.trod laidOut (by kernel_rfl) (of_decide_eq_true (by kernel_rfl)) k1 hg lt1) (trodAll_cons_mk (Below.trod laidOut (by kernel_rfl) (of_decide_eq_true (by kernel_rfl)) k2 hg lt2) trodAll_mk0))), rfl, hg.frame _, fun h => by cases h⟩
theorem reads (os : Os) {H : Type} (enc : TypeId × Value → H) : ∃ places, DataW.whole enc Try.prog ((laidW os).forCall (fun _ _ => 0) ⟨#[], #[.int .i64 0, .slice none 0 0, .slice none 0 0], []⟩).memory Try.f10.params.toList Rows.resolutionUnitsSpec.vars false #[Value.int .i64 0, Value.slice none 0 0, Value.slice none 0 0].toList 8 = some ([.lit (.int .i64 0), .nil, .nil], [], places) :=
  ⟨[], by kernel_rfl⟩
theorem lifted (os : Os) (started : os.Started) (H : Type) (enc : TypeId × Value → H) (F : Stop.Interp) :
    ReturnsInHanded {} Try.checked os 10 .any ((OpenSpec.ofChange Rows.resolutionUnitsSpec).preRow enc Try.prog Try.f10 Rows.resolutionUnitsRow.domain false Rows.resolutionUnitsRow.laid) (((OpenSpec.ofChange Rows.resolutionUnitsSpec).at F).post enc Try.prog Try.f10 false true false false) := by
  obtain ⟨places, hx⟩ := reads os enc
  refine returnsInHanded_of_row (C := Try.checked) (s := OpenSpec.ofChange Rows.resolutionUnitsSpec) own started (by kernel_rfl) Try.func10
    (witness_row_at (enc := enc) (C := Try.checked) false (laidW os) #[.int .i64 0, .slice none 0 0, .slice none 0 0] (laidW_os os) (vars_ok os _) (heap_ok os _) (by kernel_rfl)
      (OpenSpec.preRow_of_cond 8 hx (by kernel_rfl) (fun k hk => by cases hk) (by kernel_rfl) (laid_met os _))) ?_
  intro W base args ds gs before hval hW _ _ _ _ _ _
  exact contract H enc W base args ds gs before hval hW
theorem said : Rows.ResolutionUnitsSaid :=
  OpenClaim.holds_of_cond 10 Try.f10 rfl rfl rfl rfl rfl rfl rfl ⟨rfl, rfl, rfl, rfl, rfl⟩ rfl rfl rfl rfl rfl (by kernel_rfl) Try.func10 (by kernel_rfl)
    (of_decide_eq_true (by kernel_rfl)) (by unfold Func.isWrapper; first | (rw [if_pos (by decide +kernel)]; kernel_rfl) | (rw [if_neg (by decide +kernel)]; exact ⟨rfl, rfl⟩))
    (fun os started H enc _ F => by rw [OpenClaim.pre_eq_preRow]; exact lifted os started H enc F)
#print axioms said
end Go.Proofs.Ytopkmcoblndokaa.resolutionUnits
