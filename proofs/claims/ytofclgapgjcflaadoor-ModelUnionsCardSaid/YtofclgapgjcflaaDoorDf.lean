/- Layer 13: the facts at a world, on both sides. -/
import Derived.Test.YtofclgapgjcflaaDoorDe
namespace Go.Proofs.YtofclgapgjcflaaDoor
open Go.RowKit Go.Proofs.Ws
set_option maxRecDepth 100000
theorem i64_or_nat (a b : Nat) (ha : a < 2 ^ 62) (hb : b < 2 ^ 62) : bits .or .i64 (a : Int) (b : Int) = ((a ||| b : Nat) : Int) := by
  have hx : a ||| b < 2 ^ 62 := Nat.or_lt_two_pow ha hb
  show IntKind.i64.wrap ((BitVec.ofInt 64 (a : Int) ||| BitVec.ofInt 64 (b : Int)).toNat : Int) = _
  rw [BitVec.toNat_or, ofInt_u64 a (by omega), ofInt_u64 b (by omega), IntKind.wrap_i64]
  omega
theorem bit_and {s k : Nat} (hs : s < 18446744073709551616) : bits .and .u64 ((s : Int) / 2 ^ k) 1 = if s.testBit k then 1 else 0 := by
  rw [show ((s : Int) / 2 ^ k) = ((s / 2 ^ k : Nat) : Int) by simp, show (1 : Int) = ((1 : Nat) : Int) from rfl, u64_and_nat _ _ (Nat.lt_of_le_of_lt (Nat.div_le_self _ _) hs) (by decide), Nat.and_one_is_mod, Nat.testBit_eq_decide_div_mod_eq]
  by_cases h : s / 2 ^ k % 2 = 1
  · rw [h]; rfl
  · rw [show s / 2 ^ k % 2 = 0 by omega]; rfl
theorem factN_lt (val : List Nat) (k j : Nat) : factN val k j < 2 ^ j := bitsN_lt _ _
theorem factN_orP {val : List Nat} {k j z : Nat} (hz : val.getD j 0 = z) (hw : z < 18446744073709551616) (hj : j < 60) :
    bits .or .i64 ((factN val k j : Nat) : Int) (wrap64 (wrap64 (bits .and .u64 ((z : Int) / 2 ^ k) 1) * 2 ^ j)) = ((factN val k (j + 1) : Nat) : Int) := by
  have h2 : 2 ^ j < 2 ^ 60 := Nat.pow_lt_pow_right (by decide) hj
  have h3 := factN_lt val k j
  have ho := bitsN_or (fun p => (val.getD p 0).testBit k) j
  rw [bit_and hw]
  subst hz
  by_cases h : (val.getD j 0).testBit k = true
  · rw [if_pos h] at ho ⊢
    rw [show wrap64 (wrap64 1 * 2 ^ j) = ((2 ^ j : Nat) : Int) by
      rw [show wrap64 1 = 1 by unfold wrap64; omega, Int.one_mul, show ((2 : Int) ^ j) = ((2 ^ j : Nat) : Int) by simp]
      unfold wrap64; omega]
    rw [i64_or_nat _ _ (by omega) (by omega)]
    unfold factN
    rw [ho]
  · rw [if_neg h] at ho ⊢
    rw [show wrap64 (wrap64 0 * 2 ^ j) = ((0 : Nat) : Int) by rw [show wrap64 0 = 0 by unfold wrap64; omega, Int.zero_mul]; unfold wrap64; omega]
    rw [i64_or_nat _ _ (by omega) (by omega)]
    unfold factN
    rw [ho]
theorem factN_hit {val : List Nat} {k j : Nat} (h : (val.getD j 0).testBit k = true) (hj : j < 60) : wrap64 ((factN val k j : Nat) + wrap64 (2 ^ j)) = ((factN val k (j + 1) : Nat) : Int) := by
  have h2 : 2 ^ j < 2 ^ 60 := Nat.pow_lt_pow_right (by decide) hj
  have h3 := factN_lt val k j
  have e : factN val k (j + 1) = factN val k j + 2 ^ j := by show bitsN _ j + _ = _; rw [if_pos h]; rfl
  rw [e, show ((2 : Int) ^ j) = ((2 ^ j : Nat) : Int) by simp]
  unfold wrap64; omega
theorem factN_miss {val : List Nat} {k j : Nat} (h : (val.getD j 0).testBit k = false) : factN val k (j + 1) = factN val k j := by
  show bitsN _ j + (if (val.getD j 0).testBit k = true then 2 ^ j else 0) = _; rw [h]; rfl
set_option maxHeartbeats 4000000 in
theorem pFacts_any (m : Mo) (v : Value) (x : Int) (w : World) (hM : MoR w w.heap.size v m) :
    Calls Tryd.prog 15 #[v, .int .i64 x] w fun e w' => e = .returned (.int .i64 (factV m x)) ∧ Below w.heap.size w w' := by
  obtain ⟨A1, c1, A2, c2, rfl, hv, hr⟩ := hM.ex
  have HB := Lib.hid (MBox.made w m.n (.slice A1 m.val.length c1) (.slice A2 m.rel.length c2))
  have HBe : Hid (Below w.heap.size w (w.alloc (.cells #[.int .i64 m.n, .slice A1 m.val.length c1, .slice A2 m.rel.length c2] 25))) := Lib.hid ((Below.refl _ w).alloc (Nat.le_refl _) _)
  have HM := Lib.hid hM
  have HC := Lib.hid (fun W (hb : Below w.heap.size w W) => pCheck_any m (.agg #[.int .i64 m.n, .slice A1 m.val.length c1, .slice A2 m.rel.length c2]) W (hM.below hb hb.size))
  have HV := Lib.hid hv
  have HF : Hid (factV m x = if chkM m = 0 ∧ 0 ≤ x ∧ x < m.n then (factN m.val x.toNat m.val.length : Int) else -1) := Lib.hid rfl
  clear hM hv hr
  by_cases hz : chkM m = 0
  · have ok := chkM_ok hz
    rw [hz] at HC
    have h64 := ok.le
    have hnum := ok.num
    have hfl := ok.facts
    by_cases hx : 0 ≤ x ∧ x < m.n
    · obtain ⟨k, rfl⟩ : ∃ k : Nat, x = (k : Int) := ⟨x.toNat, by omega⟩
      have hk : k < 64 := by omega
      have d0 : decide ((k : Int) < 0) = false := decide_eq_false (by omega)
      have d1 : decide (m.n ≤ (k : Int)) = false := decide_eq_false (by omega)
      rw [if_pos ⟨hz, hx⟩, show ((k : Nat) : Int).toNat = k from rfl] at HF
      have HW := Lib.hid (fun j => words_getD HM.out.wval j)
      have hqm : m.val.length ≤ 8 := hfl
      clear hz ok hx hnum HM
      generalize factV m (k : Int) = fv at *
      generalize hq : m.val.length = q at *
      generalize m.n = n at *
      generalize m.val = val at *
      clear hq
      go_enter Tryd.func15, Tryd.ntmps15
      go_wp2_with fail
      refine (HC.out _ HBe.out).mono ?_
      rintro e w2 ⟨rfl, hb2⟩
      have HB2 := Lib.hid (HBe.out.trans (hb2.mono HBe.out.size))
      have HX := Lib.hid (HB.out.below hb2 HB.out.lt)
      clear hb2
      have b0 := HX.out.c0
      have b1 := HX.out.c1
      go_wp2
      go_loopw [5, 6, 7, 24] (fun s _ _ i wr => ∃ j : Nat, j ≤ q ∧ i = .int .i64 j ∧ s = .int .i64 ((factN val k j : Nat) : Int) ∧ w2 = wr) (fun _ _ _ i _ => q - (intOf i).toNat)
      case atStart => exact ⟨0, Nat.zero_le _, rfl, rfl, by first | rfl | trivial⟩
      case round =>
        obtain ⟨j, hj, rfl, rfl, rfl⟩ := hrel
        by_cases hlt : j < q
        · obtain ⟨ad, rfl, hb, hc⟩ := (HV.out.below HB2.out).word_k hlt
          have hzw := HW.out j
          generalize hz : val.getD j 0 = z at *
          have hor := factN_orP (k := k) hz hzw (show j < 60 by omega)
          have HN : Hid (((factN val k (j + 1) : Nat) : Int) = ((factN val k (j + 1) : Nat) : Int)) := Lib.hid rfl
          clear hz hzw
          generalize factN val k j = fj at *
          go_wp2
          go_roundw
          case rel => exact ⟨j + 1, by omega, by go_num, rfl, by first | rfl | trivial⟩
          case measure => first | (simp [intOf]; done) | (simp [intOf]; omega)
        · have hjq : j = q := by omega
          subst hjq
          go_wp2
          go_ret
          exact ⟨ret_i64 HF.out.symm, HB2.out⟩
    · have HN : Hid (factV m x = -1) := Lib.hid (by rw [HF.out, if_neg (fun h => hx h.2)])
      generalize factV m x = fv at *
      have hxm : x < 0 ∨ m.n ≤ x := by omega
      clear HF ok HM hz hnum h64 hfl hx
      by_cases h0 : x < 0
      · have d0 : decide (x < 0) = true := decide_eq_true h0
        go_enter Tryd.func15, Tryd.ntmps15
        go_wp2_with fail
        refine (HC.out _ HBe.out).mono ?_
        rintro e w2 ⟨rfl, hb2⟩
        have HB2 := Lib.hid (HBe.out.trans (hb2.mono HBe.out.size))
        clear hb2
        go_wp2
        go_ret
        exact ⟨ret_i64 HN.out.symm, HB2.out⟩
      · have d0 : decide (x < 0) = false := decide_eq_false h0
        have d1 : decide (m.n ≤ x) = true := decide_eq_true (by omega)
        go_enter Tryd.func15, Tryd.ntmps15
        go_wp2_with fail
        refine (HC.out _ HBe.out).mono ?_
        rintro e w2 ⟨rfl, hb2⟩
        have HB2 := Lib.hid (HBe.out.trans (hb2.mono HBe.out.size))
        have HX := Lib.hid (HB.out.below hb2 HB.out.lt)
        clear hb2
        have b0 := HX.out.c0
        go_wp2
        go_ret
        exact ⟨ret_i64 HN.out.symm, HB2.out⟩
  · have HN : Hid (factV m x = -1) := Lib.hid (by rw [HF.out, if_neg (fun h => hz h.1)])
    have hz1 : (chkM m != 0) = true := by simpa using hz
    generalize factV m x = fv at *
    generalize chkM m = cm at *
    clear HF HM hz
    go_enter Tryd.func15, Tryd.ntmps15
    go_wp2_with fail
    refine (HC.out _ HBe.out).mono ?_
    rintro e w2 ⟨rfl, hb2⟩
    have HB2 := Lib.hid (HBe.out.trans (hb2.mono HBe.out.size))
    clear hb2
    go_wp2
    go_ret
    exact ⟨ret_i64 HN.out.symm, HB2.out⟩
set_option maxHeartbeats 4000000 in
theorem rFacts_any (m : Mo) (v : Value) (x : Int) (w : World) (hM : MoR w w.heap.size v m) :
    Calls Tryd.prog 16 #[v, .int .i64 x] w fun e w' => e = .returned (.int .i64 (factV m x)) ∧ Below w.heap.size w w' := by
  obtain ⟨A1, c1, A2, c2, rfl, hv, hr⟩ := hM.ex
  have HB := Lib.hid (MBox.made w m.n (.slice A1 m.val.length c1) (.slice A2 m.rel.length c2))
  have HBe : Hid (Below w.heap.size w (w.alloc (.cells #[.int .i64 m.n, .slice A1 m.val.length c1, .slice A2 m.rel.length c2] 25))) := Lib.hid ((Below.refl _ w).alloc (Nat.le_refl _) _)
  have HM := Lib.hid hM
  have HC := Lib.hid (fun W (hb : Below w.heap.size w W) => rCheck_any m (.agg #[.int .i64 m.n, .slice A1 m.val.length c1, .slice A2 m.rel.length c2]) W (hM.below hb hb.size))
  have HV := Lib.hid hv
  have HF : Hid (factV m x = if chkM m = 0 ∧ 0 ≤ x ∧ x < m.n then (factN m.val x.toNat m.val.length : Int) else -1) := Lib.hid rfl
  clear hM hv hr
  by_cases hz : chkM m = 0
  · have ok := chkM_ok hz
    rw [hz] at HC
    have h64 := ok.le
    have hnum := ok.num
    have hfl := ok.facts
    by_cases hx : 0 ≤ x ∧ x < m.n
    · obtain ⟨k, rfl⟩ : ∃ k : Nat, x = (k : Int) := ⟨x.toNat, by omega⟩
      have hk : k < 64 := by omega
      have d0 : decide ((k : Int) < 0) = false := decide_eq_false (by omega)
      have d1 : decide (m.n ≤ (k : Int)) = false := decide_eq_false (by omega)
      rw [if_pos ⟨hz, hx⟩, show ((k : Nat) : Int).toNat = k from rfl] at HF
      have HW := Lib.hid (fun j => words_getD HM.out.wval j)
      have hqm : m.val.length ≤ 8 := hfl
      clear hz ok hx hnum HM
      generalize factV m (k : Int) = fv at *
      generalize hq : m.val.length = q at *
      generalize m.n = n at *
      generalize m.val = val at *
      clear hq
      go_enter Tryd.func16, Tryd.ntmps16
      go_wp2_with fail
      refine (HC.out _ HBe.out).mono ?_
      rintro e w2 ⟨rfl, hb2⟩
      have HB2 := Lib.hid (HBe.out.trans (hb2.mono HBe.out.size))
      have HX := Lib.hid (HB.out.below hb2 HB.out.lt)
      clear hb2
      have b0 := HX.out.c0
      have b1 := HX.out.c1
      have HHas := Lib.hid (fun j W => rHas_any (val.getD j 0) k W (HW.out j) hk)
      go_wp2
      go_loopw [5, 6] (fun s i wr => ∃ j : Nat, j ≤ q ∧ i = .int .i64 j ∧ s = .int .i64 ((factN val k j : Nat) : Int) ∧ Hid (Below w2.heap.size w2 wr)) (fun _ i _ => q - (intOf i).toNat)
      case atStart => exact ⟨0, Nat.zero_le _, rfl, rfl, Lib.hid (Below.refl _ _)⟩
      case round =>
        obtain ⟨j, hj, rfl, rfl, HB3⟩ := hrel
        have HB4 := Lib.hid (HB2.out.trans (HB3.out.mono HB2.out.size))
        have b0 := (HX.out.below HB3.out HX.out.lt).c0
        have b1 := (HX.out.below HB3.out HX.out.lt).c1
        by_cases hlt : j < q
        · obtain ⟨ad, rfl, hb, hc⟩ := (HV.out.below HB4.out).word_k hlt
          have HH := Lib.hid (HHas.out j)
          by_cases hbit : (val.getD j 0).testBit k = true
          · have hf := factN_hit hbit (show j < 60 by omega)
            rw [hbit] at HH
            clear hbit HHas
            generalize val.getD j 0 = z at *
            generalize factN val k j = fj at *
            generalize hgf : factN val k (j + 1) = fj1 at *
            have HGF := Lib.hid hgf
            clear hgf
            go_wp2_with fail
            refine (HH.out _).mono ?_
            rintro e w4 ⟨rfl, rfl⟩
            go_wp2
            go_roundw
            case rel => exact ⟨j + 1, by omega, by go_num, by rw [HGF.out, hf], HB3⟩
            case measure => first | (simp [intOf]; done) | (simp [intOf]; omega)
          · have hbit2 : (val.getD j 0).testBit k = false := by simpa using hbit
            have hf := factN_miss hbit2
            rw [hbit2] at HH
            have HF2 : Hid (factN val k (j + 1) = factN val k j) := Lib.hid hf
            clear hbit HHas hbit2 hf
            generalize val.getD j 0 = z at *
            go_wp2_with fail
            refine (HH.out _).mono ?_
            rintro e w4 ⟨rfl, rfl⟩
            go_wp2
            go_roundw
            case rel => exact ⟨j + 1, by omega, by go_num, by rw [HF2.out], HB3⟩
            case measure => first | (simp [intOf]; done) | (simp [intOf]; omega)
        · have hjq : j = q := by omega
          subst hjq
          go_wp2
          go_ret
          exact ⟨ret_i64 HF.out.symm, HB4.out⟩
    · have HN : Hid (factV m x = -1) := Lib.hid (by rw [HF.out, if_neg (fun h => hx h.2)])
      generalize factV m x = fv at *
      have hxm : x < 0 ∨ m.n ≤ x := by omega
      clear HF ok HM hz hnum h64 hfl hx
      by_cases h0 : x < 0
      · have d0 : decide (x < 0) = true := decide_eq_true h0
        go_enter Tryd.func16, Tryd.ntmps16
        go_wp2_with fail
        refine (HC.out _ HBe.out).mono ?_
        rintro e w2 ⟨rfl, hb2⟩
        have HB2 := Lib.hid (HBe.out.trans (hb2.mono HBe.out.size))
        clear hb2
        go_wp2
        go_ret
        exact ⟨ret_i64 HN.out.symm, HB2.out⟩
      · have d0 : decide (x < 0) = false := decide_eq_false h0
        have d1 : decide (m.n ≤ x) = true := decide_eq_true (by omega)
        go_enter Tryd.func16, Tryd.ntmps16
        go_wp2_with fail
        refine (HC.out _ HBe.out).mono ?_
        rintro e w2 ⟨rfl, hb2⟩
        have HB2 := Lib.hid (HBe.out.trans (hb2.mono HBe.out.size))
        have HX := Lib.hid (HB.out.below hb2 HB.out.lt)
        clear hb2
        have b0 := HX.out.c0
        go_wp2
        go_ret
        exact ⟨ret_i64 HN.out.symm, HB2.out⟩
  · have HN : Hid (factV m x = -1) := Lib.hid (by rw [HF.out, if_neg (fun h => hz h.1)])
    have hz1 : (chkM m != 0) = true := by simpa using hz
    generalize factV m x = fv at *
    generalize chkM m = cm at *
    clear HF HM hz
    go_enter Tryd.func16, Tryd.ntmps16
    go_wp2_with fail
    refine (HC.out _ HBe.out).mono ?_
    rintro e w2 ⟨rfl, hb2⟩
    have HB2 := Lib.hid (HBe.out.trans (hb2.mono HBe.out.size))
    clear hb2
    go_wp2
    go_ret
    exact ⟨ret_i64 HN.out.symm, HB2.out⟩
end Go.Proofs.YtofclgapgjcflaaDoor
