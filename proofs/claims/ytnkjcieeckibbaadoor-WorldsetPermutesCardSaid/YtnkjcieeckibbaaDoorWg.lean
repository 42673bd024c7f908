/- Contracts: Next on both sides. -/
import Derived.Test.YtnkjcieeckibbaaDoorWf
import Derived.Test.YtnkjcieeckibbaaDoorBm4
namespace Go.Proofs.YtnkjcieeckibbaaDoor
open Go.RowKit Go.Proofs.Ws
theorem outside_in (s : Nat) (n : Int) (hs : s < 18446744073709551616) (h : 0 ≤ n ∧ n ≤ 64) : (bits .andNot .u64 (s : Int) (allV n : Int) != 0) = !decide (s < 2 ^ n.toNat) := by
  rw [u64_andNot_nat s (allV n) hs (allV_lt n)]
  have e : allV n = 2 ^ n.toNat - 1 := by unfold allV; rw [if_pos h]
  rw [e]
  have := outside s n.toNat (by omega) hs
  by_cases h2 : s < 2 ^ n.toNat
  · rw [this.2 h2, decide_eq_true h2]; rfl
  · have h3 := fun x => h2 (this.1 x)
    rw [decide_eq_false h2, bne_iff_ne.2 (by omega)]; rfl
theorem outside_out (s : Nat) (n : Int) (hs : s < 18446744073709551616) (h : ¬ (0 ≤ n ∧ n ≤ 64)) : (bits .andNot .u64 (s : Int) (allV n : Int) != 0) = !decide (s = 0) := by
  rw [u64_andNot_nat s (allV n) hs (allV_lt n)]
  have e : allV n = 0 := by unfold allV; rw [if_neg h]
  have e2 : s &&& (18446744073709551615 - 0) = s := by
    have := Nat.and_two_pow_sub_one_eq_mod s 64
    rw [show 2 ^ 64 - 1 = 18446744073709551615 - 0 from by omega] at this
    rw [this]; omega
  rw [e, e2]
  by_cases h2 : s = 0
  · rw [decide_eq_true h2, h2]; rfl
  · rw [decide_eq_false h2, bne_iff_ne.2 (by omega)]; rfl
theorem outside_yes (s : Nat) (n : Int) (hs : s < 18446744073709551616) (h0 : s ≠ 0) (h : ¬ (0 ≤ n ∧ n ≤ 64 ∧ s < 2 ^ n.toNat)) : (bits .andNot .u64 (s : Int) (allV n : Int) != 0) = true := by
  by_cases h1 : 0 ≤ n ∧ n ≤ 64
  · rw [outside_in s n hs h1, decide_eq_false (by omega)]; rfl
  · rw [outside_out s n hs h1, decide_eq_false h0]; rfl
set_option maxRecDepth 100000 in
set_option maxHeartbeats 1600000 in
theorem next_any (n : Int) (s : Nat) (w : World) (hs : s < 18446744073709551616) (hT : Tab w) :
    Calls Tryd.prog 33 #[.int .i64 n, .int .u64 s] w fun e w' => e = .returned (.tuple #[.int .u64 (nextV n s).1, .bool (nextV n s).2]) ∧ w = w' := by
  have HA := Lib.hid (all_any n w)
  by_cases h0 : s = 0
  · have HE : Hid (nextV n s = (0, false)) := Lib.hid (by unfold nextV; rw [if_neg (by omega)])
    have hz : ((s : Int) == 0) = true := by simp; omega
    clear h0
    go_enter Tryd.func33, Tryd.ntmps33
    go_wp2_with (go_at_call 18; refine (HA.out).mono ?_; rintro e w' ⟨rfl, rfl⟩)
    go_ret2
    exact ⟨by rw [HE.out]; rfl, rfl⟩
  · have hz : ((s : Int) == 0) = false := by simp; omega
    by_cases hin : 0 ≤ n ∧ n ≤ 64 ∧ s < 2 ^ n.toNat
    · have ho := outside_in s n hs ⟨hin.1, hin.2.1⟩
      rw [decide_eq_true hin.2.2] at ho
      have HT := Lib.hid (tz_any s w hs h0 hT)
      have hl64 : low s < 64 := (low_form s h0 hs).choose_spec.2
      have HO := Lib.hid (only_any (low s) w hl64)
      have hle : s + p2 (low s) ≤ 18446744073709551616 := add_low_le s h0 hs
      have HG : Hid (nextV n s = if s + p2 (low s) < 2 ^ n.toNat then (gos s, true) else (0, false)) := Lib.hid (by
        unfold nextV
        by_cases h : s + 2 ^ low s < 2 ^ n.toNat
        · rw [if_pos ⟨hin.1, hin.2.1, h0, hin.2.2, h⟩]; exact (if_pos h).symm
        · rw [if_neg (fun x => h x.2.2.2.2)]; exact (if_neg h).symm)
      have HGL : Hid (gos s = (s + p2 (low s)) ||| ((s ^^^ (s + p2 (low s))) / 2 ^ (low s + 2))) := Lib.hid rfl
      by_cases hlt : s + p2 (low s) < 18446744073709551616
      · obtain ⟨q, hq⟩ : ∃ q, q = p2 (low s) := ⟨_, rfl⟩
        rw [← hq] at hle hlt HG HGL HO
        have e1 : IntKind.u64.wrap ((s : Int) + (q : Int)) = ((s + q : Nat) : Int) := by
          rw [IntKind.wrap_u64]; omega
        obtain ⟨mv, hmv⟩ : ∃ mv, mv = s + q := ⟨_, rfl⟩
        rw [← hmv] at e1 HG HGL
        have hne : ((mv : Int) == 0) = false := by simp; omega
        have HS := Lib.hid hs
        have HM : Hid (mv < 18446744073709551616) := Lib.hid (by omega)
        obtain ⟨x, hx⟩ : ∃ x, x = s ^^^ mv := ⟨_, rfl⟩
        have e2 : bits .xor .u64 (s : Int) (mv : Int) = (x : Int) := by rw [u64_xor_nat s mv hs HM.out, hx]
        have ha62 : low s ≤ 62 := by
          have h1 : 2 ^ low s ≤ s := by
            have h2 := testBit_low s h0 hs
            exact Nat.ge_two_pow_of_testBit h2
          apply Nat.le_of_not_lt
          intro h3
          have h4 : 2 ^ 63 ≤ 2 ^ low s := Nat.pow_le_pow_right (by decide) (by omega)
          have h5 : 2 ^ low s ≤ q := by rw [hq]; exact Nat.le_refl _
          omega
        have hgl : mv < 2 ^ n.toNat → gos s < 2 ^ n.toNat := fun h => gos_lt n.toNat s hin.2.2 (by rw [hmv, hq] at h; exact h)
        have hgg : mv ≤ gos s := by rw [hmv, hq]; exact gos_ge s
        have hg64 : gos s < 18446744073709551616 := by rw [HGL.out]; exact Nat.or_lt_two_pow (n := 64) HM.out (Nat.lt_of_le_of_lt (Nat.div_le_self _ _) (Nat.xor_lt_two_pow (n := 64) hs HM.out))
        have e3 : bits .or .u64 (mv : Int) ((x : Int) / 2 ^ min (low s + 2) 64) = (gos s : Int) := by
          have hxl : x < 18446744073709551616 := by rw [hx]; exact Nat.xor_lt_two_pow (n := 64) hs HM.out
          rw [show min (low s + 2) 64 = low s + 2 from by omega, show ((x : Int) / 2 ^ (low s + 2)) = ((x / 2 ^ (low s + 2) : Nat) : Int) from by simp, u64_or_nat mv _ HM.out (Nat.lt_of_le_of_lt (Nat.div_le_self _ _) hxl), HGL.out, hx]
        have e4 := outside_in (gos s) n hg64 ⟨hin.1, hin.2.1⟩
        obtain ⟨a, ha⟩ : ∃ a, a = low s := ⟨_, rfl⟩
        rw [← hx] at HGL
        rw [← ha] at HT HO hl64 e3
        obtain ⟨g, hg⟩ : ∃ g, g = gos s := ⟨_, rfl⟩
        rw [← hg] at e3 e4 hgl hgg HG
        have c0 : 0 ≤ (a : Int) + 2 := by omega
        have c1 : (a : Int) + 2 ≤ 65 := by omega
        clear HGL hle hlt hin h0 hT hmv hs hq hx ha hg hg64 ha62
        by_cases hm : mv < 2 ^ n.toNat
        · have HE : Hid (nextV n s = (g, true)) := Lib.hid (by rw [HG.out, if_pos hm])
          rw [decide_eq_true (hgl hm)] at e4
          clear hgl hgg hm HG
          go_enter Tryd.func33, Tryd.ntmps33
          go_wp2_with (first | (go_at_call 18; refine (HA.out).mono ?_; rintro e w' ⟨rfl, rfl⟩) | (go_at_call 70; refine (HT.out).mono ?_; rintro e w' ⟨rfl, rfl⟩) | (go_at_call 68; refine (HO.out).mono ?_; rintro e w' ⟨rfl, rfl⟩))
          go_ret2
          exact ⟨by rw [HE.out]; rfl, rfl⟩
        · have HE : Hid (nextV n s = (0, false)) := Lib.hid (by rw [HG.out, if_neg hm])
          rw [decide_eq_false (by omega)] at e4
          clear hgl hgg hm HG
          go_enter Tryd.func33, Tryd.ntmps33
          go_wp2_with (first | (go_at_call 18; refine (HA.out).mono ?_; rintro e w' ⟨rfl, rfl⟩) | (go_at_call 70; refine (HT.out).mono ?_; rintro e w' ⟨rfl, rfl⟩) | (go_at_call 68; refine (HO.out).mono ?_; rintro e w' ⟨rfl, rfl⟩))
          go_ret2
          exact ⟨by rw [HE.out]; rfl, rfl⟩
      · have HE : Hid (nextV n s = (0, false)) := Lib.hid (by
          have x : 2 ^ n.toNat ≤ 2 ^ 64 := Nat.pow_le_pow_right (by decide) (by omega)
          rw [HG.out, if_neg (by omega)])
        have e1 : IntKind.u64.wrap ((s : Int) + (p2 (low s) : Int)) = 0 := by
          rw [IntKind.wrap_u64]; omega
        clear hle hlt hin h0 hT hs HG HGL
        go_enter Tryd.func33, Tryd.ntmps33
        go_wp2_with (first | (go_at_call 18; refine (HA.out).mono ?_; rintro e w' ⟨rfl, rfl⟩) | (go_at_call 70; refine (HT.out).mono ?_; rintro e w' ⟨rfl, rfl⟩) | (go_at_call 68; refine (HO.out).mono ?_; rintro e w' ⟨rfl, rfl⟩))
        go_ret2
        exact ⟨by rw [HE.out]; rfl, rfl⟩
    · have HE : Hid (nextV n s = (0, false)) := Lib.hid (by unfold nextV; rw [if_neg (by omega)])
      have ho2 := outside_yes s n hs h0 hin
      clear hin h0
      go_enter Tryd.func33, Tryd.ntmps33
      go_wp2_with (go_at_call 18; refine (HA.out).mono ?_; rintro e w' ⟨rfl, rfl⟩)
      go_ret2
      exact ⟨by rw [HE.out]; rfl, rfl⟩
set_option maxRecDepth 100000 in
set_option maxHeartbeats 1600000 in
theorem refNext_any (n : Int) (s : Nat) (w : World) (hs : s < 18446744073709551616) :
    Calls Tryd.prog 34 #[.int .i64 n, .int .u64 s] w fun e w' => e = .returned (.tuple #[.int .u64 (nextV n s).1, .bool (nextV n s).2]) ∧ w = w' := by
  have HA := Lib.hid (refAll_any n w)
  by_cases h1 : n < 0
  · have HE : Hid (nextV n s = (0, false)) := Lib.hid (by unfold nextV; rw [if_neg (by omega)])
    clear hs
    go_enter Tryd.func34, Tryd.ntmps34
    go_wp2
    go_ret2
    exact ⟨by rw [HE.out]; rfl, rfl⟩
  · by_cases h2 : 64 < n
    · have HE : Hid (nextV n s = (0, false)) := Lib.hid (by unfold nextV; rw [if_neg (by omega)])
      clear hs
      go_enter Tryd.func34, Tryd.ntmps34
      go_wp2
      go_ret2
      exact ⟨by rw [HE.out]; rfl, rfl⟩
    · obtain ⟨m, rfl⟩ := Int.eq_ofNat_of_zero_le (show 0 ≤ n by omega)
      have ho := outside_in s m hs ⟨by omega, by omega⟩
      rw [Int.toNat_natCast] at ho
      by_cases hin : s < 2 ^ m
      · rw [decide_eq_true hin] at ho
        have HS := Lib.hid hs
        have HI := Lib.hid hin
        have hm64 : m ≤ 64 := by omega
        clear h1 h2 hin hs
        by_cases h0 : s = 0
        · have HE : Hid (nextV m s = (0, false)) := Lib.hid (by unfold nextV; rw [if_neg (by omega)])
          have HB : Hid (∀ i, s.testBit i = false) := Lib.hid (by rw [h0]; simp)
          clear h0
          go_enter Tryd.func34, Tryd.ntmps34
          go_wp2_with (go_at_call 19; refine (HA.out).mono ?_; rintro e w' ⟨rfl, rfl⟩)
          go_loop [6, 7] (fun bl i => ∃ k : Nat, k ≤ m ∧ i = .int .i64 k ∧ bl = .int .i64 0) (fun _ i => m - (intOf i).toNat)
          case atStart => exact ⟨0, Nat.zero_le _, rfl, rfl⟩
          case round =>
            obtain ⟨k, hk, rfl, rfl⟩ := hrel
            by_cases hlt : k + 1 < m
            · have H1 := Lib.hid (refHas_no s k w HS.out (by omega) (HB.out k))
              go_wp2_with (go_at_call 28; refine (H1.out).mono ?_; rintro e w' ⟨rfl, rfl⟩)
              go_round
              case rel => exact ⟨k + 1, by omega, by go_num, rfl⟩
              case measure => simp [intOf]; omega
            · go_wp2
              go_ret2
              exact ⟨by rw [HE.out]; rfl, rfl⟩
        · obtain ⟨b, hi, hb1, hbf⟩ := block_form s h0 HS.out
          obtain ⟨w1, w2, w3⟩ := walk_bits s b hi hb1 hbf
          have W1 := Lib.hid w1
          have W2 := Lib.hid w2
          have W3 := Lib.hid w3
          have HF := Lib.hid hbf
          have H0 := Lib.hid h0
          clear w1 w2 w3 hbf h0
          obtain ⟨a, ha⟩ : ∃ a, a = low s := ⟨_, rfl⟩
          have HAa := Lib.hid ha
          rw [← ha] at W1 W2 W3
          clear ha
          go_enter Tryd.func34, Tryd.ntmps34
          go_wp2_with (go_at_call 19; refine (HA.out).mono ?_; rintro e w' ⟨rfl, rfl⟩)
          clear HA
          go_loop [6, 7] (fun bl i => ∃ k : Nat, k ≤ m ∧ k + 1 ≤ a + b ∧ i = .int .i64 k ∧ bl = .int .i64 ((k - a : Nat) : Int)) (fun _ i => m - (intOf i).toNat)
          case atStart => exact ⟨0, Nat.zero_le _, by omega, rfl, by simp⟩
          case round =>
            obtain ⟨k, hk, hkb, rfl, rfl⟩ := hrel
            by_cases hlt : k + 1 < m
            · by_cases hka : k < a
              · have H1 := Lib.hid (refHas_no s k w HS.out (by omega) (W1.out k hka))
                go_wp2_with (go_at_call 28; refine (H1.out).mono ?_; rintro e w' ⟨rfl, rfl⟩)
                go_round
                case rel => exact ⟨k + 1, by omega, by omega, by go_num, by rw [show k + 1 - a = 0 from by omega, show k - a = 0 from by omega]⟩
                case measure => simp [intOf]; omega
              · have H1 := Lib.hid (refHas_yes s k w HS.out (by omega) (W2.out k (by omega) (by omega)))
                by_cases hkt : k + 1 < a + b
                · have H2 := Lib.hid (refHas_yes s (k + 1) w HS.out (by omega) (W2.out (k + 1) (by omega) (by omega)))
                  go_wp2_with fail
                  refine (H1.out).mono ?_
                  rintro e w' ⟨rfl, rfl⟩
                  go_wp2_with fail
                  refine (H2.out).mono ?_
                  rintro e w' ⟨rfl, rfl⟩
                  go_wp2
                  go_round
                  case rel => exact ⟨k + 1, by omega, by omega, by go_num, by rw [show k + 1 - a = (k - a) + 1 from by omega]; go_num⟩
                  case measure => simp [intOf]; omega
                · have hkt2 : k + 1 = a + b := by omega
                  have H2 := Lib.hid (refHas_no s (k + 1) w HS.out (by omega) (by rw [hkt2]; exact W3.out))
                  have H3 := Lib.hid (refAll_any ((k : Int) + 2) w)
                  have H4 := Lib.hid (bit_int ((k : Int) + 1) w ⟨by omega, by omega⟩)
                  have H5 := Lib.hid (refAll_any ((k - a : Nat) : Int) w)
                  have v1 : allV ((k : Int) + 2) = 2 ^ (a + b + 1) - 1 := by
                    unfold allV; rw [if_pos ⟨by omega, by omega⟩, show ((k : Int) + 2).toNat = a + b + 1 from by omega]
                  have v2 : p2 ((k : Int) + 1).toNat = 2 ^ (a + b) := by rw [show ((k : Int) + 1).toNat = a + b from by omega]; rfl
                  have v3 : allV ((k - a : Nat) : Int) = 2 ^ (b - 1) - 1 := by
                    unfold allV; rw [if_pos ⟨by omega, by omega⟩, show (((k - a : Nat) : Int)).toNat = b - 1 from by omega]
                  have g1 : gos s = ((s &&& (18446744073709551615 - allV ((k : Int) + 2))) ||| p2 ((k : Int) + 1).toNat) ||| allV ((k - a : Nat) : Int) := by
                    rw [v1, v2, v3]
                    have hf := gos_form s b hi hb1 HF.out (by have := HAa.out; omega) HS.out
                    rw [← HAa.out] at hf
                    exact hf
                  have hp : p2 ((k : Int) + 1).toNat < 18446744073709551616 := Nat.pow_lt_pow_right (by decide) (by omega : ((k : Int) + 1).toNat < 64)
                  have hx1 : s &&& (18446744073709551615 - allV ((k : Int) + 2)) < 18446744073709551616 := Nat.lt_of_le_of_lt Nat.and_le_left HS.out
                  obtain ⟨x1, hxe⟩ : ∃ x1, x1 = s &&& (18446744073709551615 - allV ((k : Int) + 2)) := ⟨_, rfl⟩
                  have E1 : bits .andNot .u64 (s : Int) (allV ((k : Int) + 2) : Int) = (x1 : Int) := by rw [u64_andNot_nat s _ HS.out (allV_lt _), hxe]
                  rw [← hxe] at g1 hx1
                  obtain ⟨E2, hx2⟩ := or_u64 x1 _ hx1 hp
                  obtain ⟨E3, hx3⟩ := or_u64 _ _ hx2 (allV_lt ((k - a : Nat) : Int))
                  obtain ⟨y2, hy2⟩ : ∃ y, y = p2 ((k : Int) + 1).toNat := ⟨_, rfl⟩
                  obtain ⟨y3, hy3⟩ : ∃ y, y = allV ((k - a : Nat) : Int) := ⟨_, rfl⟩
                  obtain ⟨y1, hy1⟩ : ∃ y, y = allV ((k : Int) + 2) := ⟨_, rfl⟩
                  rw [← hy2] at E2 E3 g1 H4
                  rw [← hy3] at E3 g1 H5
                  rw [← hy1] at E1 H3
                  obtain ⟨x2, hz2⟩ : ∃ x, x = x1 ||| y2 := ⟨_, rfl⟩
                  rw [← hz2] at E2 E3 g1
                  rw [← g1] at E3
                  have HE : Hid (nextV m s = (gos s, true)) := Lib.hid (by
                    unfold nextV
                    exact if_pos ⟨by omega, by omega, H0.out, by simpa using HI.out, by
                      rw [Int.toNat_natCast]
                      exact moved_lt s b hi m HF.out HI.out (by have := HAa.out; omega)⟩)
                  clear hkt2 hkt v1 v2 v3 g1 hp hx1 hx2 hx3 hxe hy1 hy2 hy3 hz2
                  go_wp2_with fail
                  refine (H1.out).mono ?_
                  rintro e w' ⟨rfl, rfl⟩
                  go_wp2_with fail
                  refine (H2.out).mono ?_
                  rintro e w' ⟨rfl, rfl⟩
                  go_wp2_with fail
                  refine (H3.out).mono ?_
                  rintro e w' ⟨rfl, rfl⟩
                  go_wp2_with fail
                  refine (H4.out).mono ?_
                  rintro e w' ⟨rfl, rfl⟩
                  go_wp2_with fail
                  refine (H5.out).mono ?_
                  rintro e w' ⟨rfl, rfl⟩
                  go_wp2
                  go_ret2
                  exact ⟨by rw [HE.out]; rfl, rfl⟩
            · have HE : Hid (nextV m s = (0, false)) := Lib.hid (by
                unfold nextV
                rw [if_neg (fun x => moved_ge s b hi m HF.out (by have := HAa.out; omega) x.2.2.2.2)])
              go_wp2
              go_ret2
              exact ⟨by rw [HE.out]; rfl, rfl⟩
      · have HE : Hid (nextV m s = (0, false)) := Lib.hid (by unfold nextV; rw [if_neg (fun x => hin (by simpa using x.2.2.2.1))])
        rw [decide_eq_false hin] at ho
        clear hs hin
        go_enter Tryd.func34, Tryd.ntmps34
        go_wp2_with (go_at_call 19; refine (HA.out).mono ?_; rintro e w' ⟨rfl, rfl⟩)
        go_ret2
        exact ⟨by rw [HE.out]; rfl, rfl⟩
end Go.Proofs.YtnkjcieeckibbaaDoor
