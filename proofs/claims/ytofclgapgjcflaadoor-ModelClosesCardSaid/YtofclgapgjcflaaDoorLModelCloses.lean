/- Layer 13: ModelCloses. -/
import Derived.Test.YtofclgapgjcflaaDoorEg
import Derived.Test.YtofclgapgjcflaaDoorEc
namespace Go.Proofs.YtofclgapgjcflaaDoor.modelCloses
open Go.ChangeShapes Go.WideShapes Go.ChangeAt Go.RowKit Go.Proofs.YtofclgapgjcflaaDoor Go.Proofs.YtofclgapgjcflaaDoor.mdl Go.Proofs.Ws
open Go.ChangeMaps (open_string shut_string)
theorem andnot_sub {f g : Nat} (_hf : f < 18446744073709551616) (_hg : g < 18446744073709551616) (h : SubS f g) : bits .andNot .u64 (f : Int) (g : Int) = 0 := by
  show IntKind.u64.wrap ((BitVec.ofInt 64 (f : Int) &&& ~~~ BitVec.ofInt 64 (g : Int)).toNat : Int) = 0
  have e : (BitVec.ofInt 64 (f : Int) &&& ~~~ BitVec.ofInt 64 (g : Int)) = 0#64 := by
    apply BitVec.eq_of_getLsbD_eq
    intro i hi
    have e1 : ∀ x : Nat, (BitVec.ofInt 64 (x : Int)).getLsbD i = x.testBit i := fun x => by
      rw [BitVec.ofInt_natCast, BitVec.getLsbD_ofNat, decide_eq_true hi, Bool.true_and]
    rw [BitVec.getLsbD_and, BitVec.getLsbD_not, e1, e1, decide_eq_true hi]
    cases hb : f.testBit i
    · simp
    · rw [h i hb]; simp
  rw [e]; rfl
set_option maxRecDepth 100000
set_option maxHeartbeats 16000000 in
theorem walk (m : Mo) (v : Value) (f : Nat) (w : World) (hM : MoR w w.heap.size v m) (hs : f < 18446744073709551616) (hT : Tab w) :
    Calls Tryd.prog 8 #[v, .int .u64 (f : Int)] w fun e w' => e = .returned (.bool true) ∧ Below w.heap.size w w' := by
  obtain ⟨A1, c1, A2, c2, rfl, hv, hr⟩ := hM.ex
  have HB := Lib.hid (MBox.made w m.n (.slice A1 m.val.length c1) (.slice A2 m.rel.length c2))
  have HBe : Hid (Below w.heap.size w (w.alloc (.cells #[.int .i64 m.n, .slice A1 m.val.length c1, .slice A2 m.rel.length c2] 25))) := Lib.hid ((Below.refl _ w).alloc (Nat.le_refl _) _)
  have HMW := Lib.hid (fun W (hb : Below w.heap.size w W) => hM.below hb hb.size)
  have HRU := Lib.hid hr
  have HTW := Lib.hid (fun W (hb : Below w.heap.size w W) => hT.below hb)
  have HAW : Hid (∀ W, Below w.heap.size w W → Calls Tryd.prog 11 #[] W fun e w' => e = .returned (.bool true) ∧ Below W.heap.size W w') := Lib.hid (fun W hb => awake13_any W (hT.below hb))
  have HFW : Hid (∀ W, Below w.heap.size w W → Calls Tryd.prog 12 #[.agg #[.int .i64 m.n, .slice A1 m.val.length c1, .slice A2 m.rel.length c2]] W fun e w' => e = .returned (.bool (fewM m)) ∧ Below W.heap.size W w') := Lib.hid (fun W hb => lFew_any m _ W (HMW.out W hb))
  have HCW : Hid (∀ W, Below w.heap.size w W → Calls Tryd.prog 14 #[.agg #[.int .i64 m.n, .slice A1 m.val.length c1, .slice A2 m.rel.length c2]] W fun e w' => e = .returned (.int .i64 (chkM m)) ∧ Below W.heap.size W w') := Lib.hid (fun W hb => rCheck_any m _ W (HMW.out W hb))
  clear hM hv hr
  by_cases hf : fewM m = true
  case neg =>
    have hf2 : fewM m = false := by simpa using hf
    rw [hf2] at HFW
    clear hf hf2
    go_enter Tryd.func8, Tryd.ntmps8
    go_wp2_with fail
    refine (HAW.out _ HBe.out).mono ?_
    rintro e w2 ⟨rfl, hb2⟩
    have HB2 := Lib.hid (HBe.out.trans (hb2.mono HBe.out.size))
    have HX := Lib.hid (HB.out.below hb2 HB.out.lt)
    clear hb2
    have b0 := HX.out.c0
    have b1 := HX.out.c1
    have b2 := HX.out.c2
    go_wp2_with fail
    refine (HFW.out _ HB2.out).mono ?_
    rintro e w3 ⟨rfl, hb3⟩
    have HB3 := Lib.hid (HB2.out.trans (hb3.mono HB2.out.size))
    have HX3 := Lib.hid (HX.out.below hb3 HX.out.lt)
    clear hb3 b0 b1 b2
    go_wp2_with fail
    refine (HAW.out _ HB3.out).mono ?_
    rintro e w9 ⟨rfl, hb9⟩
    have HB9 := Lib.hid (HB3.out.trans (hb9.mono HB3.out.size))
    clear hb9
    go_wp2
    go_ret
    exact ⟨rfl, HB9.out⟩
  case pos =>
    rw [hf] at HFW
    clear hf
    by_cases hz : chkM m = 0
    case neg =>
      have hne : (chkM m != 0) = true := by rw [bne_iff_ne]; exact hz
      generalize chkM m = cm at *
      clear hz
      go_enter Tryd.func8, Tryd.ntmps8
      go_wp2_with fail
      refine (HAW.out _ HBe.out).mono ?_
      rintro e w2 ⟨rfl, hb2⟩
      have HB2 := Lib.hid (HBe.out.trans (hb2.mono HBe.out.size))
      have HX := Lib.hid (HB.out.below hb2 HB.out.lt)
      clear hb2
      have b0 := HX.out.c0
      have b1 := HX.out.c1
      have b2 := HX.out.c2
      go_wp2_with fail
      refine (HFW.out _ HB2.out).mono ?_
      rintro e w3 ⟨rfl, hb3⟩
      have HB3 := Lib.hid (HB2.out.trans (hb3.mono HB2.out.size))
      have HX3 := Lib.hid (HX.out.below hb3 HX.out.lt)
      clear hb3 b0 b1 b2
      have b0 := HX3.out.c0
      have b1 := HX3.out.c1
      have b2 := HX3.out.c2
      go_wp2_with fail
      refine (HCW.out _ HB3.out).mono ?_
      rintro e w4 ⟨rfl, hb4⟩
      have HB4 := Lib.hid (HB3.out.trans (hb4.mono HB3.out.size))
      have HX4 := Lib.hid (HX3.out.below hb4 HX3.out.lt)
      clear hb4 b0 b1 b2
      go_wp2_with fail
      refine (HAW.out _ HB4.out).mono ?_
      rintro e w9 ⟨rfl, hb9⟩
      have HB9 := Lib.hid (HB4.out.trans (hb9.mono HB4.out.size))
      clear hb9
      go_wp2
      go_ret
      exact ⟨rfl, HB9.out⟩
    case pos =>
      rw [hz] at HCW
      have hl := HMW
      have HRR : Hid (UsR w w.heap.size A2 m.rel.length m.rel) := HRU
      have ok := chkM_ok hz
      have HNUM := Lib.hid ok.num
      have hle := ok.le
      have hag := ok.agents
      have HRX := Lib.hid ok.rel
      have HRL := Lib.hid ok.len
      have HAL := Lib.hid (fun W => rAll_any m.n.toNat W hle)
      have HP : Hid (2 ^ m.n.toNat ≤ 18446744073709551616) := Lib.hid (Nat.pow_le_pow_right (show 0 < 2 by decide) hle)
      have HGW : Hid (∀ W, Below w.heap.size w W → Calls Tryd.prog 19 #[.agg #[.int .i64 m.n, .slice A1 m.val.length c1, .slice A2 m.rel.length c2], .int .u64 (f : Int)] W fun e w' => e = .returned (.tuple #[.int .u64 ((genV m f : Nat) : Int), .int .i64 (csE m f)]) ∧ Below W.heap.size W w') := Lib.hid (fun W hb => pGenerated_any m _ f W (HMW.out W hb) hs (HTW.out W hb))
      clear hl HRU
      have hof := out_fact f m.n.toNat hs hle
      have hmn : m.n = (m.n.toNat : Int) := HNUM.out
      by_cases hsn : f < 2 ^ m.n.toNat
      case neg =>
        rw [csE_out hz hsn] at HGW
        rw [decide_eq_false hsn, Bool.not_false] at hof
        clear hsn HRR HMW hag ok hz
        generalize genV m f = gv at *
        generalize m.n.toNat = n at *
        rw [hmn] at HB HBe HGW HFW HCW
        rw [hmn]
        generalize 2 ^ n - 1 = al at *
        go_enter Tryd.func8, Tryd.ntmps8
        go_wp2_with fail
        refine (HAW.out _ HBe.out).mono ?_
        rintro e w2 ⟨rfl, hb2⟩
        have HB2 := Lib.hid (HBe.out.trans (hb2.mono HBe.out.size))
        have HX := Lib.hid (HB.out.below hb2 HB.out.lt)
        clear hb2
        have b0 := HX.out.c0
        have b1 := HX.out.c1
        have b2 := HX.out.c2
        go_wp2_with fail
        refine (HFW.out _ HB2.out).mono ?_
        rintro e w3 ⟨rfl, hb3⟩
        have HB3 := Lib.hid (HB2.out.trans (hb3.mono HB2.out.size))
        have HX3 := Lib.hid (HX.out.below hb3 HX.out.lt)
        clear hb3 b0 b1 b2
        have b0 := HX3.out.c0
        have b1 := HX3.out.c1
        have b2 := HX3.out.c2
        go_wp2_with fail
        refine (HCW.out _ HB3.out).mono ?_
        rintro e w4 ⟨rfl, hb4⟩
        have HB4 := Lib.hid (HB3.out.trans (hb4.mono HB3.out.size))
        have HX4 := Lib.hid (HX3.out.below hb4 HX3.out.lt)
        clear hb4 b0 b1 b2
        have b0 := HX4.out.c0
        have b1 := HX4.out.c1
        have b2 := HX4.out.c2
        go_wp2_with fail
        refine (HGW.out _ HB4.out).mono ?_
        rintro e w5 ⟨rfl, hb5⟩
        have HB5 := Lib.hid (HB4.out.trans (hb5.mono HB4.out.size))
        have HX5 := Lib.hid (HX4.out.below hb5 HX4.out.lt)
        clear hb5 b0 b1 b2
        have b0 := HX5.out.c0
        have b2 := HX5.out.c2
        go_wp2_with fail
        refine (HAL.out _).mono ?_
        rintro e w6 ⟨rfl, rfl⟩
        go_wp2
        go_ret
        exact ⟨rfl, HB5.out⟩
      case pos =>
        rw [csE_in hz hsn, show genV m f = genF m.rel m.n.toNat f from by unfold genV; rw [if_pos (csE_in hz hsn)]] at HGW
        have hgen := genF_gen HRX.out hsn
        have hgl : genF m.rel m.n.toNat f < 2 ^ m.n.toNat := roundG_lt HRX.out hsn _
        have HGF : Hid (genF m.rel m.n.toNat f = roundG m.rel m.n.toNat m.n.toNat f) := Lib.hid rfl
        have hg64 : genF m.rel m.n.toNat f < 18446744073709551616 := Nat.lt_of_lt_of_le hgl HP.out
        have hA1 := andnot_sub hs hg64 hgen.sub
        have hA2 := out_fact (genF m.rel m.n.toNat f) m.n.toNat hg64 hle
        rw [decide_eq_true hgl, Bool.not_true] at hA2
        have HCL := Lib.hid hgen.closed
        have HG64 := Lib.hid hg64
        have HBG := Lib.hid (fun k => bit_and (s := genF m.rel m.n.toNat f) (k := k) hg64)
        have HSL := Lib.hid (fun i => roundG_lt HRX.out hsn i)
        clear hsn hof hgen hgl hg64 HMW ok hz
        generalize genF m.rel m.n.toNat f = g at *
        generalize m.n.toNat = n at *
        rw [hmn] at HB HBe HGW HFW HCW
        rw [hmn]
        generalize m.rel = rel at *
        generalize hq : rel.length = q at *
        have HQ := Lib.hid hq
        clear hq
        generalize 2 ^ n - 1 = al at *
        go_enter Tryd.func8, Tryd.ntmps8
        go_wp2_with fail
        refine (HAW.out _ HBe.out).mono ?_
        rintro e w2 ⟨rfl, hb2⟩
        have HB2 := Lib.hid (HBe.out.trans (hb2.mono HBe.out.size))
        have HX := Lib.hid (HB.out.below hb2 HB.out.lt)
        clear hb2
        have b0 := HX.out.c0
        have b1 := HX.out.c1
        have b2 := HX.out.c2
        go_wp2_with fail
        refine (HFW.out _ HB2.out).mono ?_
        rintro e w3 ⟨rfl, hb3⟩
        have HB3 := Lib.hid (HB2.out.trans (hb3.mono HB2.out.size))
        have HX3 := Lib.hid (HX.out.below hb3 HX.out.lt)
        clear hb3 b0 b1 b2
        have b0 := HX3.out.c0
        have b1 := HX3.out.c1
        have b2 := HX3.out.c2
        go_wp2_with fail
        refine (HCW.out _ HB3.out).mono ?_
        rintro e w4 ⟨rfl, hb4⟩
        have HB4 := Lib.hid (HB3.out.trans (hb4.mono HB3.out.size))
        have HX4 := Lib.hid (HX3.out.below hb4 HX3.out.lt)
        clear hb4 b0 b1 b2
        have b0 := HX4.out.c0
        have b1 := HX4.out.c1
        have b2 := HX4.out.c2
        go_wp2_with fail
        refine (HGW.out _ HB4.out).mono ?_
        rintro e w5 ⟨rfl, hb5⟩
        have HB5 := Lib.hid (HB4.out.trans (hb5.mono HB4.out.size))
        have HX5 := Lib.hid (HX4.out.below hb5 HX4.out.lt)
        clear hb5 b0 b1 b2
        have b0 := HX5.out.c0
        have b2 := HX5.out.c2
        go_wp2_with fail
        refine (HAL.out _).mono ?_
        rintro e w6 ⟨rfl, rfl⟩
        go_wp2
        clear hA1 hA2
        go_loopw [7, 8, 9, 56, 60, 66] (fun u7 _ _ i _ _ wr => ∃ k : Nat, k ≤ n ∧ i = .int .i64 k ∧ u7 = .int .u64 ((roundG rel n k f : Nat) : Int) ∧ w5 = wr) (fun _ _ _ i _ _ _ => n - (intOf i).toNat)
        case atStart => exact ⟨0, Nat.zero_le _, rfl, rfl, by first | rfl | trivial⟩
        case round =>
          obtain ⟨k, hk, rfl, rfl, rfl⟩ := hrel
          by_cases hlt : k < n
          · have HRO : Hid (passG rel n (roundG rel n k f) = roundG rel n (k + 1) f) := Lib.hid rfl
            have HSI := Lib.hid (HSL.out k)
            have HPL := Lib.hid (fun x => Nat.lt_of_lt_of_le (passG_lt HRX.out HSI.out x) HP.out)
            have HP0 : Hid (roundG rel n k f = passG rel 0 (roundG rel n k f)) := Lib.hid rfl
            generalize roundG rel n k f = s0 at *
            go_wp2
            go_loopw [7, 8, 9, 60, 66] (fun u7 _ _ i _ wr => ∃ x : Nat, x ≤ n ∧ i = .int .i64 x ∧ u7 = .int .u64 ((passG rel x s0 : Nat) : Int) ∧ w5 = wr) (fun _ _ _ i _ _ => n - (intOf i).toNat)
            case atStart => exact ⟨0, Nat.zero_le _, rfl, by rw [← HP0.out], by first | rfl | trivial⟩
            case round =>
              obtain ⟨x, hx, rfl, rfl, rfl⟩ := hrel
              by_cases hlx : x < n
              · have HST : Hid (passG rel (x + 1) s0 = stepGm rel x (passG rel x s0)) := Lib.hid rfl
                have hS64 := HPL.out x
                have hx64 : x < 64 := by omega
                generalize passG rel x s0 = S at *
                obtain ⟨cur, hcur⟩ : ∃ cur : Nat → Nat, cur = fun a => if S.testBit x then S ||| orW rel x a else S := ⟨_, rfl⟩
                have HC0 : Hid (S = cur 0) := Lib.hid (by rw [hcur]; dsimp only; split <;> simp [orW])
                have HCQ : Hid (passG rel (x + 1) s0 = cur q) := Lib.hid (by rw [HST.out, hcur]; dsimp only; unfold stepGm; rw [HQ.out])
                have HCB : Hid (∀ a, (cur a).testBit x = S.testBit x) := Lib.hid (fun a => by rw [hcur]; dsimp only; split <;> simp [Nat.testBit_or, *])
                have HC64 : Hid (∀ a, a ≤ q → cur a < 18446744073709551616) := Lib.hid (fun a ha => by
                  rw [hcur]; dsimp only; split
                  · exact Nat.or_lt_two_pow (n := 64) hS64 (Nat.lt_of_lt_of_le (orW_lt (w := x) HRX.out a (by have := HQ.out; omega)) HP.out)
                  · exact hS64)
                have HCS : Hid (∀ a, S.testBit x = true → cur a ||| (rel.getD a []).getD x 0 = cur (a + 1)) := Lib.hid (fun a h => by rw [hcur]; dsimp only; rw [if_pos h, if_pos h, Nat.or_assoc]; rfl)
                have HCN : Hid (∀ a, S.testBit x = false → cur a = cur (a + 1)) := Lib.hid (fun a h => by rw [hcur]; dsimp only; rw [h]; rfl)
                clear hcur HST
                go_wp2
                go_loopw [7, 9, 66] (fun u7 _ i wr => ∃ a : Nat, a ≤ q ∧ i = .int .i64 a ∧ u7 = .int .u64 ((cur a : Nat) : Int) ∧ w5 = wr) (fun _ _ i _ => q - (intOf i).toNat)
                case atStart => exact ⟨0, Nat.zero_le _, rfl, by rw [← HC0.out], by first | rfl | trivial⟩
                case round =>
                  obtain ⟨a, ha, rfl, rfl, rfl⟩ := hrel
                  by_cases hla : a < q
                  · obtain ⟨ad, Aj, cj, rfl, had, hcell, hrj, hlj⟩ := (HRR.out.below HB5.out (Nat.le_refl _)).at_ hla
                    have hlen := HRL.out (rel.getD a []) (getD_mem' (by have := HQ.out; omega))
                    rw [hlen] at hcell hrj
                    obtain ⟨aj, rfl, haj, hcj⟩ := hrj.word_k (k := x) hlx
                    have hz64 : (rel.getD a []).getD x 0 < 18446744073709551616 := Nat.lt_of_lt_of_le (relW_lt HRX.out a x) HP.out
                    have hor := u64_or_nat (cur a) ((rel.getD a []).getD x 0) (HC64.out a ha) hz64
                    have hb1' := bit_and (k := x) (HC64.out a ha)
                    rw [HCB.out a] at hb1'
                    have hb2' := HBG.out x
                    have hno : g.testBit x = true → bits .andNot .u64 (((rel.getD a []).getD x 0 : Nat) : Int) (g : Int) = 0 := fun h => andnot_sub hz64 HG64.out (HCL.out (rel.getD a []) (getD_mem' (by have := HQ.out; omega)) x h)
                    clear hlen hrj hlj hz64
                    by_cases hbit : S.testBit x = true
                    · have HS2 := Lib.hid (HCS.out a hbit)
                      rw [HS2.out] at hor
                      rw [if_pos hbit] at hb1'
                      clear hbit
                      generalize (rel.getD a []).getD x 0 = z at *
                      generalize hca : cur (a + 1) = ca1 at *
                      have HCA := Lib.hid hca
                      clear hca
                      generalize cur a = ca at *
                      by_cases hgb : g.testBit x = true
                      · rw [if_pos hgb] at hb2'
                        have hno := hno hgb
                        clear hgb
                        go_wp2
                        go_roundw
                        case rel => exact ⟨a + 1, by omega, by go_num, by rw [HCA.out], by first | rfl | trivial⟩
                        case measure => first | (simp [intOf]; done) | (simp [intOf]; omega)
                      · rw [if_neg hgb] at hb2'
                        clear hgb hno
                        go_wp2
                        go_roundw
                        case rel => exact ⟨a + 1, by omega, by go_num, by rw [HCA.out], by first | rfl | trivial⟩
                        case measure => first | (simp [intOf]; done) | (simp [intOf]; omega)
                    · have hbit2 : S.testBit x = false := by simpa using hbit
                      have HS2 := Lib.hid (HCN.out a hbit2)
                      rw [if_neg hbit] at hb1'
                      clear hbit hbit2 hor
                      generalize (rel.getD a []).getD x 0 = z at *
                      generalize hca : cur (a + 1) = ca1 at *
                      have HCA := Lib.hid hca
                      clear hca
                      generalize cur a = ca at *
                      by_cases hgb : g.testBit x = true
                      · rw [if_pos hgb] at hb2'
                        have hno := hno hgb
                        clear hgb
                        go_wp2
                        go_roundw
                        case rel => exact ⟨a + 1, by omega, by go_num, by rw [HCA.out, ← HS2.out], by first | rfl | trivial⟩
                        case measure => first | (simp [intOf]; done) | (simp [intOf]; omega)
                      · rw [if_neg hgb] at hb2'
                        clear hgb hno
                        go_wp2
                        go_roundw
                        case rel => exact ⟨a + 1, by omega, by go_num, by rw [HCA.out, ← HS2.out], by first | rfl | trivial⟩
                        case measure => first | (simp [intOf]; done) | (simp [intOf]; omega)
                  · obtain rfl : q = a := by omega
                    clear hla
                    go_wp2
                    go_roundw
                    case rel => exact ⟨x + 1, by omega, by go_num, by rw [HCQ.out], by first | rfl | trivial⟩
                    case measure => first | (simp [intOf]; done) | (simp [intOf]; omega)
              · obtain rfl : n = x := by omega
                clear hlx
                go_wp2
                go_roundw
                case rel => exact ⟨k + 1, by omega, by go_num, by rw [HRO.out], by first | rfl | trivial⟩
                case measure => first | (simp [intOf]; done) | (simp [intOf]; omega)
          · obtain rfl : n = k := by omega
            rw [← HGF.out]
            clear hlt
            go_wp2
            go_ret
            exact ⟨rfl, HB5.out⟩
set_option maxRecDepth 100000 in
theorem contract (H : Type) (enc : TypeId × Value → H) (W : World) (base : Nat) (args : Array Value) (ds gs : List (DataW H)) (before : List MemPlace)
    (hval : ∀ (j : Nat) t v, Tryd.f8.params[j]? = some t → args[j]? = some v → Value.okWide Tryd.prog W .any base t v)
    (hW : DataW.Whole enc Tryd.prog Tryd.f8.params.toList Rows.modelClosesSpec.vars false W args.toList ds gs before) (hE : Tab W) :
    Calls Tryd.prog 8 args W fun e W' => ∃ v, e = .returned v ∧ Rows.modelClosesSpec.post enc Tryd.prog Tryd.f8 false true false false W args v W' := by
  have hW' := hW
  obtain ⟨p, q, hA0, hV, rfl, hfz, hnd⟩ := hW
  have hA : DataW.TrodAll enc Tryd.prog W 0 (fun _ => true) true Tryd.f8.params.toList args.toList ds p := hA0
  rw [Tryd.params8] at hA hval
  obtain ⟨v0, vs0, d0, ds0, p0, q0, hargs, rfl, rfl, h0, r0⟩ := trodAll_cons hA
  obtain ⟨v1, vs1, d1, ds1, p1, q1, rfl, rfl, rfl, h1, r1⟩ := trodAll_cons r0
  obtain ⟨rfl, rfl, rfl⟩ := trodAll_nil r1
  obtain rfl : args = #[v0, v1] := by cases args; simp_all
  obtain ⟨rfl, rfl⟩ := trodVars_none hV
  obtain ⟨m0, w0⟩ := open_mo (hval 0 25 v0 rfl rfl) h0
  have k0 := h0
  have lt0 : ∀ x ∈ p0, x.block < W.heap.size := by obtain ⟨m, hm⟩ := k0; exact DataW.trod_lt m _ _ _ hm
  obtain ⟨g1, rfl, rfl, rfl, w1⟩ := open_int Tryd.underlying31 (hval 1 31 v1 rfl rfl) h1
  obtain ⟨g1, rfl, hu1⟩ : ∃ n : Nat, g1 = (n : Int) ∧ n < 18446744073709551616 := by have hz := w1; have q1 : IntKind.u64.min = 0 := rfl; have q2 : IntKind.u64.max = 18446744073709551615 := rfl; simp [Lit.wf] at hz; exact ⟨g1.toNat, by omega, by omega⟩
  clear hA0
  simp only [List.append_nil] at hW'
  have hwalk := walk m0 _ g1 W w0 hu1 hE
  refine hwalk.mono fun e W' ⟨he, hg⟩ => ?_
  subst he
  exact ⟨_, rfl, _, _, _, [], _, [], hW', trodAll_mk1 (shut_bool Tryd.underlying4 _), (trodAll_cons_mk (Below.trod laidOut (by kernel_rfl) (of_decide_eq_true (by kernel_rfl)) k0 hg lt0) (trodAll_cons_mk (shut_int Tryd.underlying31 w1) trodAll_mk0)), rfl, hg.frame _, fun h => by cases h⟩
theorem reads (os : Os) {H : Type} (enc : TypeId × Value → H) : ∃ places, DataW.whole enc Tryd.prog ((laidW os).forCall (fun _ _ => 0) ⟨#[], #[.agg #[.int .i64 0, .slice none 0 0, .slice none 0 0], .int .u64 0], []⟩).memory Tryd.f8.params.toList Rows.modelClosesSpec.vars false #[(.agg #[.int .i64 0, .slice none 0 0, .slice none 0 0] : Value), (.int .u64 0 : Value)].toList 8 = some ([.agg [.lit (.int .i64 0), .nil, .nil], .lit (.int .u64 0)], [], places) :=
  ⟨[], by kernel_rfl⟩
set_option maxRecDepth 100000 in
theorem lifted (os : Os) (started : os.Started) (H : Type) (enc : TypeId × Value → H) (F : Stop.Interp) :
    ReturnsInHanded {} Tryd.checked os 8 .any ((OpenSpec.ofChange Rows.modelClosesSpec).preRow enc Tryd.prog Tryd.f8 Rows.modelClosesRow.domain false Rows.modelClosesRow.laid) (((OpenSpec.ofChange Rows.modelClosesSpec).at F).post enc Tryd.prog Tryd.f8 false true false false) := by
  obtain ⟨places, hx⟩ := reads os enc
  refine returnsInHanded_of_row (C := Tryd.checked) (s := OpenSpec.ofChange Rows.modelClosesSpec) own started (by kernel_rfl) Tryd.func8
    (witness_row_atRef (enc := enc) (C := Tryd.checked) false (laidW os) #[.agg #[.int .i64 0, .slice none 0 0, .slice none 0 0], .int .u64 0] (laidW_os os) (vars_ok os _) (heap_ok os _) (by kernel_rfl)
      (OpenSpec.preRow_of_cond 8 hx (by kernel_rfl) (fun k hk => by cases hk) (by kernel_rfl) (laid_met os _))) ?_
  intro W base args ds gs before hval hW _ _ _ hL hsh _
  exact contract H enc W base args ds gs before hval hW (env_of hL)
theorem said : Rows.ModelClosesSaid :=
  OpenClaim.holds_of_cond 8 Tryd.f8 rfl rfl rfl rfl rfl rfl rfl ⟨rfl, rfl, rfl, rfl, rfl⟩ rfl rfl rfl rfl rfl (by kernel_rfl) Tryd.func8 (by kernel_rfl)
    (of_decide_eq_true (by kernel_rfl)) (by unfold Func.isWrapper; first | (rw [if_pos (by decide +kernel)]; kernel_rfl) | (rw [if_neg (by decide +kernel)]; exact ⟨rfl, rfl⟩))
    (fun os started H enc _ F => by rw [OpenClaim.pre_eq_preRow]; exact lifted os started H enc F)
theorem plain (f : FuncId) (fn : Func) (hf : Tryd.pinned.checked.prog.funcNamed "witting/wittinglaw13.ModelCloses" = some f) (hfn : Tryd.pinned.checked.prog.funcs[f]? = some fn) :
    false = Tryd.pinned.checked.prog.looks [] ∧ ∀ (j : Nat) t, fn.params[j]? = some t → Tryd.pinned.checked.prog.wantsStandIn t = false := by
  obtain rfl : f = 8 := Option.some.inj ((show Tryd.prog.funcNamed "witting/wittinglaw13.ModelCloses" = some 8 by kernel_rfl).symm.trans hf) |>.symm
  obtain rfl : fn = Tryd.f8 := (Option.some.inj (Tryd.func8.symm.trans hfn)).symm
  refine ⟨no_looks, fun j t ht => ?_⟩
  rw [Tryd.params8] at ht
  have hm : t ∈ [25, 31] := by simpa using Array.mem_of_getElem? ht
  have hall : ([25, 31].all fun u => !Tryd.prog.wantsStandIn u) = true := by kernel_rfl
  exact (show Tryd.prog.wantsStandIn t = false by simpa using List.all_eq_true.1 hall t hm)
theorem card : Rows.ModelClosesCardSaid :=
  Claim7.holds_tied_plain_at .later [] _ _ _ _ said (fun _ h => by cases h) (by kernel_rfl) (fun _ h => by cases h) modelCloses_row_tie rfl ⟨rfl, rfl⟩ (by kernel_rfl) rfl plain (by kernel_rfl)
#print axioms card
end Go.Proofs.YtofclgapgjcflaaDoor.modelCloses
