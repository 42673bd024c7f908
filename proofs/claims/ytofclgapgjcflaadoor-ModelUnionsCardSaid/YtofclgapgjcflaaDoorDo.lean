/- Layer 13: the reference's Generated. -/
import Derived.Test.YtofclgapgjcflaaDoorDn
namespace Go.Proofs.YtofclgapgjcflaaDoor
open Go.RowKit Go.Proofs.Ws
set_option maxRecDepth 100000
theorem stepG_hit {rel : List (List Nat)} {w s : Nat} (h : s.testBit w = true) : stepGm rel w s = s ||| orW rel w rel.length := by unfold stepGm; rw [if_pos h]
theorem stepG_miss {rel : List (List Nat)} {w s : Nat} (h : s.testBit w = false) : stepGm rel w s = s := by unfold stepGm; rw [h]; rfl
set_option maxHeartbeats 8000000 in
theorem rGenerated_any (m : Mo) (v : Value) (s : Nat) (w : World) (hM : MoR w w.heap.size v m) (hs : s < 18446744073709551616) :
    Calls Tryd.prog 20 #[v, .int .u64 (s : Int)] w fun e w' => e = .returned (.tuple #[.int .u64 ((genV m s : Nat) : Int), .int .i64 (csE m s)]) ∧ Below w.heap.size w w' := by
  obtain ⟨A1, c1, A2, c2, rfl, hv, hr⟩ := hM.ex
  have HB := Lib.hid (MBox.made w m.n (.slice A1 m.val.length c1) (.slice A2 m.rel.length c2))
  have HBe : Hid (Below w.heap.size w (w.alloc (.cells #[.int .i64 m.n, .slice A1 m.val.length c1, .slice A2 m.rel.length c2] 25))) := Lib.hid ((Below.refl _ w).alloc (Nat.le_refl _) _)
  have HC := Lib.hid (fun W (hb : Below w.heap.size w W) => rCheck_any m (.agg #[.int .i64 m.n, .slice A1 m.val.length c1, .slice A2 m.rel.length c2]) W (hM.below hb hb.size))
  have HRR := Lib.hid hr
  have HS := Lib.hid hs
  have HV : Hid (genV m s = if csE m s = 0 then genF m.rel m.n.toNat s else 0) := Lib.hid rfl
  have hlm := hM.lim.2
  unfold maxLen at hlm
  clear hM hv hr hs
  by_cases hz : chkM m = 0
  · have ok := chkM_ok hz
    have HOK := Lib.hid ok
    have HN := Lib.hid ok.num
    have hle := ok.le
    have hag := ok.agents
    have HAL := Lib.hid (fun W => rAll_any m.n.toNat W hle)
    have HOF := Lib.hid (out_fact s m.n.toNat HS.out hle)
    rw [hz] at HC
    have hmn : m.n = (m.n.toNat : Int) := HN.out
    have HMV : Hid (∀ W g, MBox W g m.n (.slice A1 m.val.length c1) (.slice A2 m.rel.length c2) → W.cell? ⟨g, 0, none⟩ = some (.int .i64 (m.n.toNat : Int))) := Lib.hid (fun W g h => by rw [h.c0, ← hmn])
    have hof := HOF.out
    by_cases hsn : s < 2 ^ m.n.toNat
    · have HSN := Lib.hid hsn
      have hce := csE_in (s := s) hz hsn
      rw [hce, if_pos rfl] at HV
      rw [hce]
      rw [decide_eq_true hsn, Bool.not_true] at hof
      have HRX := Lib.hid ok.rel
      have HRL := Lib.hid ok.len
      have HP : Hid (2 ^ m.n.toNat ≤ 18446744073709551616) := Lib.hid (Nat.pow_le_pow_right (show 0 < 2 by decide) hle)
      have HSL := Lib.hid (fun i => roundG_lt ok.rel hsn i)
      clear hsn HOF hmn ok hz hce HN
      generalize genV m s = gv at *
      generalize m.n.toNat = n at *
      generalize m.n = mn at *
      generalize m.rel = rel at *
      generalize hq : rel.length = q at *
      have HQ := Lib.hid hq
      clear hq
      generalize 2 ^ n - 1 = al at *
      go_enter Tryd.func20, Tryd.ntmps20
      go_wp2_with fail
      refine (HC.out _ HBe.out).mono ?_
      rintro e w2 ⟨rfl, hb2⟩
      have HB2 := Lib.hid (HBe.out.trans (hb2.mono HBe.out.size))
      have HX := Lib.hid (HB.out.below hb2 HB.out.lt)
      clear hb2
      have b0 := HMV.out _ _ HX.out
      have b2 := HX.out.c2
      go_wp2_with fail
      refine (HAL.out _).mono ?_
      rintro e w3 ⟨rfl, rfl⟩
      go_wp2
      clear hof
      go_loopw [7, 8, 9, 10] (fun u7 u8 _ _ wr => ∃ i : Nat, i ≤ n ∧ u8 = .int .i64 i ∧ u7 = .int .u64 ((roundG rel n i s : Nat) : Int) ∧ w2 = wr) (fun _ u8 _ _ _ => n - (intOf u8).toNat)
      case atStart => exact ⟨0, Nat.zero_le _, rfl, rfl, by first | rfl | trivial⟩
      case round =>
        obtain ⟨i, hi, rfl, rfl, rfl⟩ := hrel
        by_cases hlt : i < n
        · have HRO : Hid (passG rel n (roundG rel n i s) = roundG rel n (i + 1) s) := Lib.hid rfl
          have HSI := Lib.hid (HSL.out i)
          have HPL := Lib.hid (fun k => Nat.lt_of_lt_of_le (passG_lt HRX.out HSI.out k) HP.out)
          have HP0 : Hid (roundG rel n i s = passG rel 0 (roundG rel n i s)) := Lib.hid rfl
          generalize roundG rel n i s = s0 at *
          go_wp2
          go_loopw [7, 9, 10] (fun u7 u9 _ wr => ∃ x : Nat, x ≤ n ∧ u9 = .int .i64 x ∧ u7 = .int .u64 ((passG rel x s0 : Nat) : Int) ∧ w2 = wr) (fun _ u9 _ _ => n - (intOf u9).toNat)
          case atStart => exact ⟨0, Nat.zero_le _, rfl, by rw [← HP0.out], by first | rfl | trivial⟩
          case round =>
            obtain ⟨x, hx, rfl, rfl, rfl⟩ := hrel
            by_cases hlx : x < n
            · have HST : Hid (passG rel (x + 1) s0 = stepGm rel x (passG rel x s0)) := Lib.hid rfl
              have hS64 := HPL.out x
              have hx64 : x < 64 := by omega
              generalize passG rel x s0 = S at *
              by_cases hbit : S.testBit x = true
              · have HHI := Lib.hid (fun a (W : World) => rHas_any (S ||| orW rel x a) x W)
                have HT1 : Hid (passG rel (x + 1) s0 = S ||| orW rel x q) := Lib.hid (by rw [HST.out, stepG_hit hbit, HQ.out])
                have HBT : Hid (∀ a, (S ||| orW rel x a).testBit x = true) := Lib.hid (fun a => by rw [Nat.testBit_or, hbit]; rfl)
                have HOL := Lib.hid (fun a (ha : a ≤ q) => Nat.or_lt_two_pow (n := 64) hS64 (Nat.lt_of_lt_of_le (orW_lt (w := x) HRX.out a (by have := HQ.out; omega)) HP.out))
                have H00 : Hid (S = S ||| orW rel x 0) := Lib.hid (by unfold orW; simp)
                clear hbit HST
                go_wp2
                go_loopw [7, 10] (fun u7 u10 wr => ∃ a : Nat, a ≤ q ∧ u10 = .int .i64 a ∧ u7 = .int .u64 ((S ||| orW rel x a : Nat) : Int) ∧ w2 = wr) (fun _ u10 _ => q - (intOf u10).toNat)
                case atStart => exact ⟨0, Nat.zero_le _, rfl, by rw [← H00.out], by first | rfl | trivial⟩
                case round =>
                  obtain ⟨a, ha, rfl, rfl, rfl⟩ := hrel
                  by_cases hla : a < q
                  · have HH := Lib.hid (HHI.out a w2 (HOL.out a ha) hx64)
                    rw [HBT.out a] at HH
                    obtain ⟨ad, Aj, cj, rfl, had, hcell, hrj, hlj⟩ := (HRR.out.below HB2.out (Nat.le_refl _)).at_ hla
                    have hlen := HRL.out (rel.getD a []) (getD_mem' (by have := HQ.out; omega))
                    rw [hlen] at hcell hrj
                    obtain ⟨aj, rfl, haj, hcj⟩ := hrj.word_k (k := x) hlx
                    have hz64 : (rel.getD a []).getD x 0 < 18446744073709551616 := Nat.lt_of_lt_of_le (relW_lt HRX.out a x) HP.out
                    have hor := u64_or_nat (S ||| orW rel x a) ((rel.getD a []).getD x 0) (HOL.out a ha) hz64
                    rw [show S ||| orW rel x a ||| (rel.getD a []).getD x 0 = S ||| orW rel x (a + 1) from by rw [Nat.or_assoc]; rfl] at hor
                    clear hlen hrj hlj hz64
                    generalize (rel.getD a []).getD x 0 = z at *
                    generalize S ||| orW rel x a = sa at *
                    go_wp2_with fail
                    refine (HH.out).mono ?_
                    rintro e w4 ⟨rfl, rfl⟩
                    go_wp2
                    go_roundw
                    case rel => exact ⟨a + 1, by omega, by go_num, by first | rfl | (rw [hor]), by first | rfl | trivial⟩
                    case measure => first | (simp [intOf]; done) | (simp [intOf]; omega)
                  · obtain rfl : q = a := by omega
                    clear hla
                    go_wp2
                    go_roundw
                    case rel => exact ⟨x + 1, by omega, by go_num, by rw [HT1.out], by first | rfl | trivial⟩
                    case measure => first | (simp [intOf]; done) | (simp [intOf]; omega)
              · have hbit2 : S.testBit x = false := by simpa using hbit
                have HH := Lib.hid (rHas_any S x w2 hS64 hx64)
                rw [hbit2] at HH
                have HT1 : Hid (passG rel (x + 1) s0 = S) := Lib.hid (by rw [HST.out, stepG_miss hbit2])
                clear hbit hbit2 HST
                go_wp2
                go_loopw [7, 10] (fun u7 u10 wr => u10 = .int .i64 0 ∧ u7 = .int .u64 (S : Int) ∧ w2 = wr) (fun _ u10 _ => 0)
                case atStart => exact ⟨rfl, rfl, by first | rfl | trivial⟩
                case round =>
                  obtain ⟨rfl, rfl, rfl⟩ := hrel
                  by_cases hq0 : 0 < q
                  · have hd0 : decide ((0 : Int) < (q : Int)) = true := decide_eq_true (by omega)
                    go_wp2_with fail
                    refine (HH.out).mono ?_
                    rintro e w4 ⟨rfl, rfl⟩
                    go_wp2
                    go_roundw
                    case rel => exact ⟨x + 1, by omega, by go_num, by rw [HT1.out], by first | rfl | trivial⟩
                    case measure => first | (simp [intOf]; done) | (simp [intOf]; omega)
                  · have hd0 : decide ((0 : Int) < (q : Int)) = false := decide_eq_false (by omega)
                    go_wp2
                    go_roundw
                    case rel => exact ⟨x + 1, by omega, by go_num, by rw [HT1.out], by first | rfl | trivial⟩
                    case measure => first | (simp [intOf]; done) | (simp [intOf]; omega)
            · obtain rfl : n = x := by omega
              clear hlx
              go_wp2
              go_roundw
              case rel => exact ⟨i + 1, by omega, by go_num, by rw [HRO.out], by first | rfl | trivial⟩
              case measure => first | (simp [intOf]; done) | (simp [intOf]; omega)
        · obtain rfl : n = i := by omega
          clear hlt
          go_wp2
          go_ret2
          exact ⟨by rw [HV.out]; rfl, HB2.out⟩
    · have hce := csE_out (s := s) hz hsn
      rw [hce, if_neg (by decide)] at HV
      rw [hce, HV.out]
      rw [decide_eq_false hsn, Bool.not_false] at hof
      clear hsn HOF hmn ok hz hce HN HV
      generalize m.val.length = nv at *
      generalize m.rel.length = nr at *
      generalize m.n.toNat = n at *
      generalize 2 ^ n - 1 = al at *
      go_enter Tryd.func20, Tryd.ntmps20
      go_wp2_with fail
      refine (HC.out _ HBe.out).mono ?_
      rintro e w2 ⟨rfl, hb2⟩
      have HB2 := Lib.hid (HBe.out.trans (hb2.mono HBe.out.size))
      have HX := Lib.hid (HB.out.below hb2 HB.out.lt)
      clear hb2
      have b0 := HMV.out _ _ HX.out
      go_wp2_with fail
      refine (HAL.out _).mono ?_
      rintro e w3 ⟨rfl, rfl⟩
      go_wp2
      go_ret2
      exact ⟨rfl, HB2.out⟩
  · have hz1 : (chkM m != 0) = true := by simpa using hz
    have hce := csE_bad (s := s) hz
    rw [hce, if_neg hz] at HV
    rw [hce, HV.out]
    generalize chkM m = cm at *
    clear hz hce HV
    generalize m.val.length = nv at *
    generalize m.rel.length = nr at *
    go_enter Tryd.func20, Tryd.ntmps20
    go_wp2_with fail
    refine (HC.out _ HBe.out).mono ?_
    rintro e w2 ⟨rfl, hb2⟩
    have HB2 := Lib.hid (HBe.out.trans (hb2.mono HBe.out.size))
    clear hb2
    go_wp2
    go_ret2
    exact ⟨rfl, HB2.out⟩
end Go.Proofs.YtofclgapgjcflaaDoor
