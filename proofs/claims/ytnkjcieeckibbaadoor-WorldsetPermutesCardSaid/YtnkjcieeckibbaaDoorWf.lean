/- Contracts: Subset on both sides. -/
import Derived.Test.YtnkjcieeckibbaaDoorWe
import Derived.Test.YtnkjcieeckibbaaDoorBm3
namespace Go.Proofs.YtnkjcieeckibbaaDoor
open Go.RowKit Go.Proofs.Ws
/-- the i-th subset, and whether there is one -/
def subV (s : Nat) (i : Int) : Nat × Bool := if i < 0 then (0, false) else if i.toNat / 2 ^ (mem s).length = 0 then (subL (mem s) i.toNat, true) else (0, false)
theorem and_one (x : Nat) (hx : x < 18446744073709551616) : bits .and .u64 (x : Int) 1 = ((x % 2 : Nat) : Int) := by
  have := u64_and_nat x 1 hx (by omega)
  rw [nat_mask1] at this
  exact this
theorem low_and (r : Nat) (h0 : r ≠ 0) (hr : r < 18446744073709551616) : bits .and .u64 (r : Int) (IntKind.u64.wrap (-(r : Int))) = (p2 (low r) : Int) := by
  rw [show IntKind.u64.wrap (-(r : Int)) = ((18446744073709551616 - r : Nat) : Int) from by rw [IntKind.wrap_u64]; omega, u64_and_nat r _ hr (by omega), neg_low r h0 hr]
  rfl
theorem shr_test (j m : Nat) (hm : m ≤ 64) : ((j : Int) / 2 ^ min m 64 != 0) = !decide (j / 2 ^ m = 0) := by
  rw [show min m 64 = m from by omega, show ((j : Int) / 2 ^ m) = ((j / 2 ^ m : Nat) : Int) from by simp]
  by_cases h : j / 2 ^ m = 0
  · rw [h]; rfl
  · rw [decide_eq_false h, bne_iff_ne.2 (by omega)]; rfl
theorem or_u64 (a b : Nat) (ha : a < 18446744073709551616) (hb : b < 18446744073709551616) : bits .or .u64 (a : Int) (b : Int) = ((a ||| b : Nat) : Int) ∧ a ||| b < 18446744073709551616 :=
  ⟨u64_or_nat a b ha hb, Nat.or_lt_two_pow (n := 64) ha hb⟩
theorem lt_len (r ch : Nat) (hr : r < 18446744073709551616) (h : ch < 2 ^ (mem r).length) (h0 : ch ≠ 0) : r ≠ 0 ∧ ch / 2 < 2 ^ (mem (r &&& (r - 1))).length := by
  have hr0 : r ≠ 0 := by
    rintro rfl
    rw [mem_zero] at h
    simp at h
    exact h0 h
  rw [mem_step r hr0 hr, List.length_cons, Nat.pow_succ] at h
  exact ⟨hr0, by omega⟩
set_option maxRecDepth 100000 in
set_option maxHeartbeats 1600000 in
theorem subset_any (s : Nat) (i : Int) (w : World) (hs : s < 18446744073709551616) (hi : i ≤ 9223372036854775807) :
    Calls Tryd.prog 35 #[.int .u64 s, .int .i64 i] w fun e w' => e = .returned (.tuple #[.int .u64 (subV s i).1, .bool (subV s i).2]) ∧ w = w' := by
  by_cases h1 : i < 0
  · have HE : Hid (subV s i = (0, false)) := Lib.hid (by unfold subV; rw [if_pos h1])
    clear hi hs
    go_enter Tryd.func35, Tryd.ntmps35
    go_wp2
    go_ret2
    exact ⟨by rw [HE.out]; rfl, rfl⟩
  · obtain ⟨j, rfl⟩ := Int.eq_ofNat_of_zero_le (show 0 ≤ i by omega)
    have HC := Lib.hid (count_any s w hs)
    have HS := Lib.hid hs
    have HI := Lib.hid hi
    have hw : IntKind.u64.wrap (j : Int) = (j : Int) := by rw [IntKind.wrap_u64]; omega
    have ht := shr_test j (mem s).length (mem_length_le s)
    clear hs hi h1
    by_cases hq : j / 2 ^ (mem s).length = 0
    · have HE : Hid (subV s j = (subL (mem s) j, true)) := Lib.hid (by unfold subV; rw [if_neg (by omega), Int.toNat_natCast, if_pos hq])
      have HQ : Hid (j < 2 ^ (mem s).length) := Lib.hid ((Nat.div_eq_zero_iff.1 hq).resolve_left (by have := Nat.two_pow_pos (mem s).length; omega))
      rw [decide_eq_true hq] at ht
      clear hq
      go_enter Tryd.func35, Tryd.ntmps35
      go_wp2_with (go_at_call 23; refine (HC.out).mono ?_; rintro e w' ⟨rfl, rfl⟩)
      go_loop [0, 6, 7] (fun sv av cv => ∃ r a ch : Nat, sv = .int .u64 r ∧ av = .int .u64 a ∧ cv = .int .u64 ch ∧ Hid (r < 18446744073709551616) ∧ Hid (a < 18446744073709551616) ∧ Hid (ch < 18446744073709551616) ∧ Hid (ch < 2 ^ (mem r).length) ∧ Hid (a ||| subL (mem r) ch = subL (mem s) j)) (fun _ _ cv => (intOf cv).toNat)
      case atStart => exact ⟨s, 0, j, rfl, rfl, rfl, HS, Lib.hid (by omega), Lib.hid (by have := HI.out; omega), HQ, Lib.hid (by simp)⟩
      case round =>
        obtain ⟨r, a, ch, rfl, rfl, rfl, Hr, Ha, Hc, Hl, Ho⟩ := hrel
        by_cases h0 : ch = 0
        · subst h0
          have z : ∀ l, subL l 0 = 0 := by intro l; induction l with | nil => rfl | cons x l ih => simp [subL, ih]
          have HE2 : Hid (a = subL (mem s) j) := Lib.hid (by have := Ho.out; rw [z] at this; simpa using this)
          clear z
          go_wp2
          go_ret2
          exact ⟨by rw [HE.out, ← HE2.out]; rfl, rfl⟩
        · obtain ⟨hr0, hlt⟩ := lt_len r ch Hr.out Hl.out h0
          have hne : ((ch : Int) != 0) = true := by simp; omega
          have hap := andpred r hr0 Hr.out
          have hlo := low_and r hr0 Hr.out
          have H0 := Lib.hid h0
          have HM := Lib.hid (mem_step r hr0 Hr.out)
          have HLT := Lib.hid hlt
          have hor := or_pow a (low r) Ha.out (low_form r hr0 Hr.out).choose_spec.2
          have HO := Lib.hid hor.2
          have hor1 := hor.1
          have HPL := Lib.hid (and_pred_lt r hr0)
          have h1 := and_one ch Hc.out
          rcases (show ch % 2 = 0 ∨ ch % 2 = 1 by omega) with hp | hp
          · rw [hp] at h1
            have HE2 : Hid (a ||| subL (mem (r &&& (r - 1))) (ch / 2) = subL (mem s) j) := Lib.hid (by have := Ho.out; rw [HM.out, subL, if_neg (by omega)] at this; simpa using this)
            clear h0 hr0 hlt hor hp
            go_wp2
            go_round
            case rel => exact ⟨r &&& (r - 1), a, ch / 2, rfl, rfl, by go_num, Lib.hid (by have := HPL.out; have := Hr.out; omega), Ha, Lib.hid (by have := Hc.out; omega), HLT, HE2⟩
            case measure => have := H0.out; simp [intOf]; omega
          · rw [hp] at h1
            have HE2 : Hid ((a ||| p2 (low r)) ||| subL (mem (r &&& (r - 1))) (ch / 2) = subL (mem s) j) := Lib.hid (by have := Ho.out; rw [HM.out, subL, if_pos hp, ← Nat.or_assoc] at this; exact this)
            clear h0 hr0 hlt hor hp
            go_wp2
            go_round
            case rel => exact ⟨r &&& (r - 1), a ||| p2 (low r), ch / 2, rfl, by first | rfl | go_num, by go_num, Lib.hid (by have := HPL.out; have := Hr.out; omega), HO, Lib.hid (by have := Hc.out; omega), HLT, HE2⟩
            case measure => have := H0.out; simp [intOf]; omega
    · have HE : Hid (subV s j = (0, false)) := Lib.hid (by unfold subV; rw [if_neg (by omega), Int.toNat_natCast, if_neg hq])
      rw [decide_eq_false hq] at ht
      clear hq
      go_enter Tryd.func35, Tryd.ntmps35
      go_wp2_with (go_at_call 23; refine (HC.out).mono ?_; rintro e w' ⟨rfl, rfl⟩)
      go_ret2
      exact ⟨by rw [HE.out]; rfl, rfl⟩
set_option maxRecDepth 100000 in
set_option maxHeartbeats 1600000 in
theorem refSubset_any (s : Nat) (i : Int) (w : World) (hs : s < 18446744073709551616) (hi : i ≤ 9223372036854775807) :
    Calls Tryd.prog 36 #[.int .u64 s, .int .i64 i] w fun e w' => e = .returned (.tuple #[.int .u64 (subV s i).1, .bool (subV s i).2]) ∧ Below w.heap.size w w' := by
  by_cases h1 : i < 0
  · have HE : Hid (subV s i = (0, false)) := Lib.hid (by unfold subV; rw [if_pos h1])
    clear hi hs
    go_enter Tryd.func36, Tryd.ntmps36
    go_wp2
    go_ret2
    exact ⟨by rw [HE.out]; rfl, Below.refl _ _⟩
  · obtain ⟨j, rfl⟩ := Int.eq_ofNat_of_zero_le (show 0 ≤ i by omega)
    have HC := Lib.hid (refMembers_any s w hs)
    have hm := mem_length_le s
    clear hs
    go_enter Tryd.func36, Tryd.ntmps36
    go_wp2_with fail
    refine (HC.out).mono ?_
    rintro e w1 ⟨A1, c1, rfl, hR1, hb⟩
    have HB := Lib.hid hb
    clear hb
    go_wp2
    go_loop [7, 8, 9] (fun av rv kv => ∃ k a t : Nat, k ≤ (mem s).length ∧ kv = .int .i64 k ∧ av = .int .u64 a ∧ rv = .int .i64 t ∧ t ≤ 9223372036854775807 ∧ Hid (t = j / 2 ^ k) ∧ Hid (a < 18446744073709551616) ∧ Hid (a ||| subL ((mem s).drop k) t = subL (mem s) j)) (fun _ _ kv => (mem s).length - (intOf kv).toNat)
    case atStart => exact ⟨0, 0, j, Nat.zero_le _, rfl, rfl, rfl, by omega, Lib.hid (by simp), Lib.hid (by omega), Lib.hid (by simp)⟩
    case round =>
      obtain ⟨k, a, t, hk, rfl, rfl, rfl, ht, Ht, Ha, Ho⟩ := hrel
      by_cases hlt : k < (mem s).length
      · obtain ⟨ad, u, rfl, hbk, hu, hc⟩ := hR1.at_ hlt
        obtain ⟨x, hx, rfl⟩ := iv_get _ _ _ hu
        have hx64 := mem_lt s x (List.mem_of_getElem? hx)
        have HD : Hid ((mem s).drop k = x :: (mem s).drop (k + 1)) := Lib.hid (by
          rw [List.drop_eq_getElem_cons hlt]
          rw [List.getElem?_eq_getElem hlt] at hx
          simp at hx
          rw [hx])
        have HT2 : Hid (t / 2 = j / 2 ^ (k + 1)) := Lib.hid (by rw [Ht.out, Nat.div_div_eq_div_mul, Nat.pow_succ])
        clear hu hx
        rcases (show t % 2 = 0 ∨ t % 2 = 1 by omega) with hp | hp
        · have hb1 : ((t : Int) % 2 == 1) = false := by simp; omega
          have HE2 : Hid (a ||| subL ((mem s).drop (k + 1)) (t / 2) = subL (mem s) j) := Lib.hid (by have := Ho.out; rw [HD.out, subL, if_neg (by omega)] at this; simpa using this)
          clear hp
          go_wp2
          go_round
          case rel => exact ⟨k + 1, a, t / 2, by omega, by go_num, rfl, by go_num, by omega, HT2, Ha, HE2⟩
          case measure => simp [intOf]; omega
        · have hb1 : ((t : Int) % 2 == 1) = true := by simp; omega
          have H3 := Lib.hid (bit_any x w1 hx64)
          have hor := or_pow a x Ha.out hx64
          have HO := Lib.hid hor.2
          have hor1 := hor.1
          have HE2 : Hid ((a ||| p2 x) ||| subL ((mem s).drop (k + 1)) (t / 2) = subL (mem s) j) := Lib.hid (by have := Ho.out; rw [HD.out, subL, if_pos hp, ← Nat.or_assoc] at this; exact this)
          clear hp hor
          go_wp2_with (go_at_call 69; refine (H3.out).mono ?_; rintro e w' ⟨rfl, rfl⟩)
          go_round
          case rel => exact ⟨k + 1, a ||| p2 x, t / 2, by omega, by go_num, by first | rfl | go_num, by go_num, by omega, HT2, HO, HE2⟩
          case measure => simp [intOf]; omega
      · have hkl : k = (mem s).length := by omega
        have hkl2 : ¬ (k < (mem s).length) := hlt
        by_cases h0 : t = 0
        · have HE : Hid (subV s j = (a, true)) := Lib.hid (by
            have h2 := Ho.out
            rw [List.drop_eq_nil_of_le (by omega)] at h2
            simp [subL] at h2
            unfold subV
            rw [if_neg (by omega), Int.toNat_natCast, if_pos (by rw [← hkl, ← Ht.out, h0]), h2])
          clear hkl
          subst h0
          go_wp2
          go_ret2
          exact ⟨by rw [HE.out]; rfl, HB.out⟩
        · have HE : Hid (subV s j = (0, false)) := Lib.hid (by
            unfold subV
            rw [if_neg (by omega), Int.toNat_natCast, if_neg (by rw [← hkl, ← Ht.out]; exact h0)])
          have hp : 0 < (t : Int) := by omega
          clear hkl h0
          go_wp2
          go_ret2
          exact ⟨by rw [HE.out]; rfl, HB.out⟩
end Go.Proofs.YtnkjcieeckibbaaDoor
