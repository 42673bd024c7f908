/- Layer 3: the block of a point by the reference. -/
import Derived.Test.YtichhbnpdhfimaaDoorPra
namespace Go.Proofs.YtichhbnpdhfimaaDoor
open Go.RowKit Go.Proofs.Ws
def bitV (k : Nat) : Nat := if k < 64 then p2 k else 0
theorem bitV_lt (k : Nat) : bitV k < 18446744073709551616 := by
  unfold bitV
  split
  · rename_i h
    exact Nat.pow_lt_pow_right (by decide) h
  · decide
theorem bitV_succ (k : Nat) (h : k < 64) : IntKind.u64.wrap ((bitV k : Int) * 2) = (bitV (k + 1) : Int) := by
  rw [IntKind.wrap_u64]
  unfold bitV p2
  rw [if_pos h]
  by_cases h2 : k + 1 < 64
  · rw [if_pos h2, Nat.pow_succ]
    have : 2 ^ (k + 1) < 2 ^ 64 := Nat.pow_lt_pow_right (by decide) h2
    rw [Nat.pow_succ] at this
    omega
  · obtain rfl : k = 63 := by omega
    rfl
set_option maxRecDepth 100000 in
theorem pRefBlock_any (l : List Int) (i : Int) (A : Option Addr) (n c : Nat) (w : World) (hR : Reads w w.heap.size 1 A n (ints l)) (hm : n ≤ maxLen) :
    Calls Tryd.prog 59 #[.slice A n c, .int .i64 i] w fun e w' => e = .returned (.int .u64 (blkV l i : Int)) ∧ ∃ q, w' = w.drewN q := by
  have hl := hR.int_len
  have HC := Lib.hid (pRefCheck_any l A n c _ w hR hm)
  unfold maxLen at hm
  by_cases h0 : partErr l = 0
  · have h64 := (part_of hl h0).1
    rw [h0] at HC
    by_cases hi : 0 ≤ i ∧ i < n
    · obtain ⟨x, rfl⟩ := Int.eq_ofNat_of_zero_le hi.1
      have hx : x < n := by omega
      have HV : Hid (blkV l (x : Int) = cls l (l.getD x 0) n) := Lib.hid (by unfold blkV; rw [if_pos ⟨h0, by omega, by omega⟩, hl]; rfl)
      have hd1 : decide ((x : Int) < 0) = false := by simp
      have hd2 : decide ((n : Int) ≤ (x : Int)) = false := by simp; omega
      have hd3 : decide (n ≤ x) = false := by simp; omega
      have HR := Lib.hid hR
      obtain ⟨ad, rfl, hb, hcx⟩ := hR.int_at hx
      clear h0 hi hR hl
      generalize l.getD x 0 = y at *
      go_enter Tryd.func59, Tryd.ntmps59
      go_wp2_with fail
      refine (HC.out).mono ?_
      rintro e w' ⟨rfl, rfl⟩
      go_wp2
      go_loopw [5, 6, 23] (fun sv bv j wr => ∃ k q : Nat, k ≤ n ∧ j = .int .i64 k ∧ sv = .int .u64 (cls l y k : Int) ∧ bv = .int .u64 (bitV k : Int) ∧ wr = w.drewN q) (fun _ _ j _ => n - (intOf j).toNat)
      case atStart => exact ⟨0, 0, Nat.zero_le _, rfl, rfl, rfl, rfl⟩
      case round =>
        obtain ⟨k, q, hk, rfl, rfl, rfl, rfl⟩ := hrel
        by_cases hlt : k < n
        · obtain ⟨_, hA, _, hck⟩ := HR.out.int_at hlt
          cases hA
          have hbs := bitV_succ k (by omega)
          by_cases heq : l.getD k 0 = y
          · have hca := cls_add l y k
            have hlt64 : cls l y k + 2 ^ k < 18446744073709551616 := by
              rw [← hca.2]; exact (or_pow _ k (cls_lt l y k (by omega)) (by omega)).2
            have hbk : bitV k = 2 ^ k := by unfold bitV p2; rw [if_pos (by omega)]
            have hadd : IntKind.u64.wrap ((cls l y k : Int) + (bitV k : Int)) = (cls l y (k + 1) : Int) := by
              rw [cls_succ, if_pos heq, hca.2, hbk, IntKind.wrap_u64]
              omega
            rw [heq] at hck
            have hb1 : (y == y) = true := by simp
            clear hca hlt64 hbk heq
            generalize cls l y k = s at *
            generalize bitV k = b at *
            go_wp2
            go_quiet (fail)
            go_wp2
            go_roundw
            case rel => exact ⟨k + 1, q + nq, by omega, by go_num, by first | rfl | (rw [hadd]) | skip, by first | rfl | (rw [hbs]) | skip, by first | rfl | rw [World.drewN_drewN]⟩
            case measure => simp [intOf]; omega
          · have hcs : cls l y (k + 1) = cls l y k := by rw [cls_succ, if_neg heq]
            have hb1 : (l.getD k 0 == y) = false := by rw [beq_eq_false_iff_ne]; exact heq
            generalize l.getD k 0 = z at *
            generalize cls l y k = s at *
            generalize bitV k = b at *
            clear heq
            go_wp2
            go_quiet (fail)
            go_wp2
            go_roundw
            case rel => exact ⟨k + 1, q + nq, by omega, by go_num, by rw [hcs], by first | rfl | (rw [hbs]), by first | rfl | rw [World.drewN_drewN]⟩
            case measure => simp [intOf]; omega
        · have hkn : n = k := by omega
          subst hkn
          go_wp2
          go_ret
          exact ⟨ret_u64 (by rw [HV.out]), ⟨q, rfl⟩⟩
    · have HV : Hid (blkV l i = 0) := Lib.hid (by unfold blkV; rw [if_neg (by rw [hl]; rintro ⟨_, h⟩; exact hi h)])
      clear h0
      by_cases hneg : i < 0
      · have hd1 : decide (i < 0) = true := by simp; omega
        clear hi
        go_enter Tryd.func59, Tryd.ntmps59
        go_wp2_with fail
        refine (HC.out).mono ?_
        rintro e w' ⟨rfl, rfl⟩
        go_wp2
        go_ret
        exact ⟨ret_u64 (by rw [HV.out]; rfl), ⟨0, rfl⟩⟩
      · have hd1 : decide (i < 0) = false := by simp; omega
        have hd2 : decide ((n : Int) ≤ i) = true := by simp; omega
        clear hi
        go_enter Tryd.func59, Tryd.ntmps59
        go_wp2_with fail
        refine (HC.out).mono ?_
        rintro e w' ⟨rfl, rfl⟩
        go_wp2
        go_ret
        exact ⟨ret_u64 (by rw [HV.out]; rfl), ⟨0, rfl⟩⟩
  · have HV : Hid (blkV l i = 0) := Lib.hid (by unfold blkV; rw [if_neg (fun h => h0 h.1)])
    have hne : (partErr l != 0) = true := by simp [h0]
    clear h0
    go_enter Tryd.func59, Tryd.ntmps59
    go_wp2_with fail
    refine (HC.out).mono ?_
    rintro e w' ⟨rfl, rfl⟩
    go_wp2
    go_ret
    exact ⟨ret_u64 (by rw [HV.out]; rfl), ⟨0, rfl⟩⟩
end Go.Proofs.YtichhbnpdhfimaaDoor
