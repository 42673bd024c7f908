/- Layer 5: the masks of the reference. -/
import Derived.Test.YtenbhalnpiahaaaGreatDoorJn
namespace Go.Proofs.YtenbhalnpiahaaaGreatDoor
open Go.RowKit Go.Proofs.Ws Go.Maps
set_option maxRecDepth 100000 in
set_option maxHeartbeats 8000000 in
theorem rFacts_any (f : List Nd) (A : Option Addr) (n c : Nat) (w : World) (hR : Reads w w.heap.size 6 A n (nds f)) (hm : n ≤ maxLen) :
    Calls Tryz.prog 100 #[.slice A n c] w fun e w' => e = .returned (.int .i64 (maskL factD (compF f) : Int)) ∧ Below w.heap.size w w' := by
  have HC := Lib.hid (rCompact_any f A n c w hR hm)
  have HFL := Lib.hid (fun x (hx : x ∈ compF f) => compF_fld f x hx)
  have HLT : Hid (∀ x, x ∈ compF f → factD x < 512) := Lib.hid (fun x hx => factD_lt (compF_fld f x hx))
  have hq63 : (compF f).length ≤ maxLen := Nat.le_trans (compF_le f) (by rw [hR.nd_len]; exact hm)
  unfold maxLen at hq63
  generalize compF f = q at *
  have HTK : Hid (∀ k, maskL factD (q.take k) < 512) := Lib.hid (fun k => maskL_lt _ _ (fun x hx => HLT.out x (List.mem_of_mem_take hx)))
  clear hR
  go_enter Tryz.func100, Tryz.ntmps100
  go_wp2_with fail
  refine (HC.out).mono ?_
  rintro e w1 ⟨A3, c3, rfl, hR3, hb1⟩
  have HR3 := Lib.hid hR3
  have HB1 := Lib.hid hb1
  clear hR3 hb1
  go_wp2
  go_loopw [4, 5] (fun v i wr => ∃ k : Nat, k ≤ q.length ∧ i = .int .i64 k ∧ v = .int .i64 ((maskL factD (q.take k) : Nat) : Int) ∧ Hid (Below w1.heap.size w1 wr)) (fun _ i _ => q.length - (intOf i).toNat)
  case atStart => exact ⟨0, Nat.zero_le _, rfl, rfl, Lib.hid (Below.refl _ _)⟩
  case round =>
    obtain ⟨k, hk, rfl, rfl, HB⟩ := hrel
    by_cases hlt : k < q.length
    · obtain ⟨ad, rfl, hb, m0, m1, m2, m3, m4, m5⟩ := (HR3.out.below HB.out).nd_at hlt
      have HT := Lib.hid (maskL_take factD q k hlt)
      have hmem := getD_mem hlt
      obtain ⟨x, hx⟩ : ∃ x, q.getD k nd0 = x := ⟨_, rfl⟩
      rw [hx] at m0 m1 m2 m3 m4 m5 HT hmem
      have hfl := HFL.out x hmem
      have l1 := add_cell m1
      have l2 := add_cell m2
      have l3 := add_cell m3
      have l4 := add_cell m4
      have l5 := add_cell m5
      have hmk5 := HTK.out k
      have hgx := HLT.out x hmem
      by_cases h3 : x.op = 3
      · obtain ⟨hi0, hi8⟩ := (fld_i hfl).1 h3
        have hb3 : (x.op == 3) = true := by simpa using h3
        obtain ⟨j, hj⟩ : ∃ j : Nat, x.i = (j : Int) := ⟨x.i.toNat, by omega⟩
        have hgv : factD x = 2 ^ j := by unfold factD; rw [if_pos h3, hj, Int.toNat_natCast]
        have hjc : j = 0 ∨ j = 1 ∨ j = 2 ∨ j = 3 ∨ j = 4 ∨ j = 5 ∨ j = 6 ∨ j = 7 := by omega
        rw [hj] at m1 l1
        rw [hgv] at HT hgx
        clear hx hmem hfl hgv hi0 hi8 hj
        rcases hjc with rfl | rfl | rfl | rfl | rfl | rfl | rfl | rfl
        all_goals
          have hor := or_small (maskL factD (q.take k)) _ hmk5 hgx
          rw [← HT.out] at hor
          generalize maskL factD (q.take k) = mk at *
          generalize hmk : maskL factD (q.take (k + 1)) = mk2 at *
          have HMK := Lib.hid hmk
          clear hmk HT hmk5 hgx
          try rw [show ((2 ^ 0 : Nat) : Int) = 1 from rfl] at hor
          try rw [show ((2 ^ 1 : Nat) : Int) = 2 from rfl] at hor
          try rw [show ((2 ^ 2 : Nat) : Int) = 4 from rfl] at hor
          try rw [show ((2 ^ 3 : Nat) : Int) = 8 from rfl] at hor
          try rw [show ((2 ^ 4 : Nat) : Int) = 16 from rfl] at hor
          try rw [show ((2 ^ 5 : Nat) : Int) = 32 from rfl] at hor
          try rw [show ((2 ^ 6 : Nat) : Int) = 64 from rfl] at hor
          try rw [show ((2 ^ 7 : Nat) : Int) = 128 from rfl] at hor
          go_wp2
          go_roundw
          case rel => exact ⟨k + 1, by omega, by go_num, by rw [HMK.out], HB⟩
          case measure => simp [intOf]; omega
      · have hb3 : (x.op == 3) = false := by simpa using h3
        have hgv : factD x = 0 := by unfold factD; rw [if_neg h3]
        have HMK : Hid (maskL factD (q.take (k + 1)) = maskL factD (q.take k)) := Lib.hid (by rw [HT.out, hgv, Nat.or_zero])
        clear hx hmem hfl hgv hgx HT hmk5
        generalize maskL factD (q.take k) = mk at *
        go_wp2
        go_roundw
        case rel => exact ⟨k + 1, by omega, by go_num, by rw [HMK.out], HB⟩
        case measure => simp [intOf]; omega
    · have hkq : k = q.length := by omega
      have HE : Hid (q.take k = q) := Lib.hid (by rw [hkq, List.take_length])
      rw [HE.out]
      clear hlt
      go_wp2
      go_ret
      exact ⟨rfl, HB1.out.trans (HB.out.mono HB1.out.size)⟩
set_option maxRecDepth 100000 in
set_option maxHeartbeats 8000000 in
theorem rAgents_any (f : List Nd) (A : Option Addr) (n c : Nat) (w : World) (hR : Reads w w.heap.size 6 A n (nds f)) (hm : n ≤ maxLen) :
    Calls Tryz.prog 99 #[.slice A n c] w fun e w' => e = .returned (.int .i64 (maskL agentD (compF f) : Int)) ∧ Below w.heap.size w w' := by
  have HC := Lib.hid (rCompact_any f A n c w hR hm)
  have HFL := Lib.hid (fun x (hx : x ∈ compF f) => compF_fld f x hx)
  have HLT : Hid (∀ x, x ∈ compF f → agentD x < 512) := Lib.hid (fun x hx => agentD_lt (compF_fld f x hx))
  have hq63 : (compF f).length ≤ maxLen := Nat.le_trans (compF_le f) (by rw [hR.nd_len]; exact hm)
  unfold maxLen at hq63
  generalize compF f = q at *
  have HTK : Hid (∀ k, maskL agentD (q.take k) < 512) := Lib.hid (fun k => maskL_lt _ _ (fun x hx => HLT.out x (List.mem_of_mem_take hx)))
  clear hR
  go_enter Tryz.func99, Tryz.ntmps99
  go_wp2_with fail
  refine (HC.out).mono ?_
  rintro e w1 ⟨A3, c3, rfl, hR3, hb1⟩
  have HR3 := Lib.hid hR3
  have HB1 := Lib.hid hb1
  clear hR3 hb1
  go_wp2
  go_loopw [4, 5] (fun v i wr => ∃ k : Nat, k ≤ q.length ∧ i = .int .i64 k ∧ v = .int .i64 ((maskL agentD (q.take k) : Nat) : Int) ∧ Hid (Below w1.heap.size w1 wr)) (fun _ i _ => q.length - (intOf i).toNat)
  case atStart => exact ⟨0, Nat.zero_le _, rfl, rfl, Lib.hid (Below.refl _ _)⟩
  case round =>
    obtain ⟨k, hk, rfl, rfl, HB⟩ := hrel
    by_cases hlt : k < q.length
    · obtain ⟨ad, rfl, hb, m0, m1, m2, m3, m4, m5⟩ := (HR3.out.below HB.out).nd_at hlt
      have HT := Lib.hid (maskL_take agentD q k hlt)
      have hmem := getD_mem hlt
      obtain ⟨x, hx⟩ : ∃ x, q.getD k nd0 = x := ⟨_, rfl⟩
      rw [hx] at m0 m1 m2 m3 m4 m5 HT hmem
      have hfl := HFL.out x hmem
      have l1 := add_cell m1
      have l2 := add_cell m2
      have l3 := add_cell m3
      have l4 := add_cell m4
      have l5 := add_cell m5
      have hmk5 := HTK.out k
      have hgx := HLT.out x hmem
      have HAG := Lib.hid (fun W => ragent_any x.op hfl.1 W)
      cases ha : hasAgent x.op with
      | true =>
        rw [ha] at HAG
        obtain ⟨hi0, hi4⟩ := (fld_i hfl).2.1 ha
        have hg0 : x.g = 0 := (fld_i hfl).2.2.2 (by
          unfold hasAgent at ha
          unfold hasGroup
          simp only [Bool.or_eq_true, decide_eq_true_eq] at ha
          simp only [Bool.and_eq_false_iff, decide_eq_false_iff_not]
          omega)
        obtain ⟨j, hj⟩ : ∃ j : Nat, x.i = (j : Int) := ⟨x.i.toNat, by omega⟩
        have hgv : agentD x = 2 ^ j := by unfold agentD; rw [if_pos ha, hj, Int.toNat_natCast]
        have hjc : j = 0 ∨ j = 1 ∨ j = 2 ∨ j = 3 := by omega
        rw [hj] at m1 l1
        rw [hg0] at m3 l3
        rw [hgv] at HT hgx
        clear hx hmem hfl hgv hi0 hi4 hj ha hg0
        rcases hjc with rfl | rfl | rfl | rfl
        all_goals
          have hor := or_small (maskL agentD (q.take k)) _ hmk5 hgx
          rw [← HT.out] at hor
          have hor2 : bits .or .i64 ((maskL agentD (q.take (k + 1)) : Nat) : Int) 0 = ((maskL agentD (q.take (k + 1)) : Nat) : Int) := by
            have h9 := or_small (maskL agentD (q.take (k + 1))) 0 (HTK.out _) (by decide)
            rw [Nat.or_zero] at h9
            exact h9
          generalize maskL agentD (q.take k) = mk at *
          generalize hmk : maskL agentD (q.take (k + 1)) = mk2 at *
          have HMK := Lib.hid hmk
          clear hmk HT hmk5 hgx
          try rw [show ((2 ^ 0 : Nat) : Int) = 1 from rfl] at hor
          try rw [show ((2 ^ 1 : Nat) : Int) = 2 from rfl] at hor
          try rw [show ((2 ^ 2 : Nat) : Int) = 4 from rfl] at hor
          try rw [show ((2 ^ 3 : Nat) : Int) = 8 from rfl] at hor
          try rw [show ((2 ^ 4 : Nat) : Int) = 16 from rfl] at hor
          try rw [show ((2 ^ 5 : Nat) : Int) = 32 from rfl] at hor
          try rw [show ((2 ^ 6 : Nat) : Int) = 64 from rfl] at hor
          try rw [show ((2 ^ 7 : Nat) : Int) = 128 from rfl] at hor
          go_wp2_with fail
          refine (HAG.out _).mono ?_
          rintro e w3 ⟨rfl, rfl⟩
          go_wp2
          go_roundw
          case rel => exact ⟨k + 1, by omega, by go_num, by rw [HMK.out], HB⟩
          case measure => simp [intOf]; omega
      | false =>
        rw [ha] at HAG
        obtain ⟨_, _, h3, h4⟩ := fld_i hfl
        obtain ⟨j, hj⟩ : ∃ j : Nat, x.g = (j : Int) := ⟨x.g.toNat, by
          cases hgr : hasGroup x.op
          · have := h4 hgr; omega
          · have := h3 hgr; omega⟩
        have hgv : agentD x = j := by unfold agentD; rw [if_neg (by rw [ha]; decide), hj, Int.toNat_natCast]
        rw [hj] at m3 l3
        rw [hgv] at HT hgx
        have hor := or_small (maskL agentD (q.take k)) _ hmk5 hgx
        rw [← HT.out] at hor
        clear hx hmem hfl hgv hj ha h3 h4
        generalize maskL agentD (q.take k) = mk at *
        generalize hmk : maskL agentD (q.take (k + 1)) = mk2 at *
        have HMK := Lib.hid hmk
        clear hmk HT hmk5 hgx
        go_wp2_with fail
        refine (HAG.out _).mono ?_
        rintro e w3 ⟨rfl, rfl⟩
        go_wp2
        go_roundw
        case rel => exact ⟨k + 1, by omega, by go_num, by rw [HMK.out], HB⟩
        case measure => simp [intOf]; omega
    · have hkq : k = q.length := by omega
      have HE : Hid (q.take k = q) := Lib.hid (by rw [hkq, List.take_length])
      rw [HE.out]
      clear hlt
      go_wp2
      go_ret
      exact ⟨rfl, HB1.out.trans (HB.out.mono HB1.out.size)⟩
end Go.Proofs.YtenbhalnpiahaaaGreatDoor
