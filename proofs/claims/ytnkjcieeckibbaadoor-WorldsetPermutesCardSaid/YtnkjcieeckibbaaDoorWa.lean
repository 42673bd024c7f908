/- Contracts of the small functions on sets of worlds (isWorld, only, bit, the two Has). -/
import Derived.Test.YtnkjcieeckibbaaDoorProg
import Derived.Test.YtnkjcieeckibbaaDoorBm2
import Derived.WalkKit
import Derived.ProofKit
import Derived.BigQuiet
import Derived.Deep.QuietTactic
import Derived.Laws.BitsAll
import Derived.Laws.BitsAllLaws
import Derived.Lib.Hide
import Derived.IntWalk
import Derived.Laws.Bits128
namespace Go.Proofs.YtnkjcieeckibbaaDoor
open Go.RowKit Go.Proofs.Ws
theorem ret_bool {a b : Bool} (h : a = b) : Ending.returned (.bool a) = .returned (.bool b) := by rw [h]
theorem ret_u64 {a b : Int} (h : a = b) : Ending.returned (.int .u64 a) = .returned (.int .u64 b) := by rw [h]
theorem ret_i64 {a b : Int} (h : a = b) : Ending.returned (.int .i64 a) = .returned (.int .i64 b) := by rw [h]
/-- the set of one world -/
def p2 (k : Nat) : Nat := 2 ^ k
theorem wrap_pow (n : Nat) (h : n < 64) : IntKind.u64.wrap ((2 : Int) ^ n) = ((p2 n : Nat) : Int) := by
  have h2 : 2 ^ n < 2 ^ 64 := Nat.pow_lt_pow_right (by decide) h
  rw [IntKind.wrap_u64, show ((2 : Int) ^ n) = ((p2 n : Nat) : Int) from by simp [p2]]
  have h3 : p2 n < 18446744073709551616 := h2
  omega
theorem wrap_pow64 : IntKind.u64.wrap ((2 : Int) ^ 64) = 0 := by decide
theorem isWorld_any (n : Int) (w : World) :
    Calls Tryd.prog 67 #[.int .i64 n] w fun e w' => e = .returned (.bool (decide (0 ≤ n) && decide (n < 64))) ∧ w = w' := by
  by_cases h : 0 ≤ n
  · go_enter Tryd.func67, Tryd.ntmps67
    go_wp2
    go_ret
    exact ⟨ret_bool (by simp [h]), rfl⟩
  · go_enter Tryd.func67, Tryd.ntmps67
    go_wp2
    go_ret
    exact ⟨ret_bool (by simp; omega), rfl⟩
theorem isWorld_yes (n : Int) (w : World) (h : 0 ≤ n ∧ n < 64) :
    Calls Tryd.prog 67 #[.int .i64 n] w fun e w' => e = .returned (.bool true) ∧ w = w' := by
  have := isWorld_any n w
  simpa [h.1, h.2] using this
theorem isWorld_no (n : Int) (w : World) (h : ¬ (0 ≤ n ∧ n < 64)) :
    Calls Tryd.prog 67 #[.int .i64 n] w fun e w' => e = .returned (.bool false) ∧ w = w' := by
  have := isWorld_any n w
  have e : (decide (0 ≤ n) && decide (n < 64)) = false := by simp; omega
  rwa [e] at this
theorem only_any (n : Nat) (w : World) (h : n < 64) :
    Calls Tryd.prog 68 #[.int .i64 n] w fun e w' => e = .returned (.int .u64 (p2 n : Int)) ∧ w = w' := by
  go_enter Tryd.func68, Tryd.ntmps68
  go_wp2
  go_ret
  exact ⟨ret_u64 (wrap_pow n h), rfl⟩
theorem bit_any (n : Nat) (w : World) (h : n < 64) :
    Calls Tryd.prog 69 #[.int .i64 n] w fun e w' => e = .returned (.int .u64 (p2 n : Int)) ∧ w = w' := by
  go_enter Tryd.func69, Tryd.ntmps69
  go_wp2
  go_ret
  exact ⟨ret_u64 (wrap_pow n h), rfl⟩
theorem only_int (n : Int) (w : World) (h : 0 ≤ n ∧ n < 64) :
    Calls Tryd.prog 68 #[.int .i64 n] w fun e w' => e = .returned (.int .u64 (p2 n.toNat : Int)) ∧ w = w' := by
  obtain ⟨k, rfl⟩ := Int.eq_ofNat_of_zero_le h.1
  exact only_any k w (by omega)
theorem bit_int (n : Int) (w : World) (h : 0 ≤ n ∧ n < 64) :
    Calls Tryd.prog 69 #[.int .i64 n] w fun e w' => e = .returned (.int .u64 (p2 n.toNat : Int)) ∧ w = w' := by
  obtain ⟨k, rfl⟩ := Int.eq_ofNat_of_zero_le h.1
  exact bit_any k w (by omega)

/-- world n is in the set s -/
def hasB (s : Nat) (n : Int) : Bool := decide (0 ≤ n ∧ n < 64) && s.testBit n.toNat
theorem and_pow (s k : Nat) (hs : s < 18446744073709551616) (hk : k < 64) : (bits .and .u64 (s : Int) (p2 k : Int) != 0) = s.testBit k := by
  have h2 : 2 ^ k < 2 ^ 64 := Nat.pow_lt_pow_right (by decide) hk
  have hp := Nat.two_pow_pos k
  have e : s.testBit k = decide (s / 2 ^ k % 2 = 1) := Nat.testBit_eq_decide_div_mod_eq
  rw [u64_and_nat s (p2 k) hs h2, show s &&& p2 k = s / 2 ^ k % 2 * 2 ^ k from nat_bit k s, e]
  have h3 : s / 2 ^ k % 2 = 0 ∨ s / 2 ^ k % 2 = 1 := by omega
  have e0 : ((2 ^ k : Nat) : Int) ≠ 0 := by omega
  rcases h3 with h3 | h3 <;> rw [h3]
  · simp
  · simp only [Nat.one_mul, decide_true, bne_iff_ne]; exact e0
theorem has_any (s : Nat) (n : Int) (w : World) (hs : s < 18446744073709551616) :
    Calls Tryd.prog 27 #[.int .u64 s, .int .i64 n] w fun e w' => e = .returned (.bool (hasB s n)) ∧ w = w' := by
  by_cases h : 0 ≤ n ∧ n < 64
  · obtain ⟨k, rfl⟩ := Int.eq_ofNat_of_zero_le h.1
    have hk : k < 64 := by omega
    have hh := and_pow s k hs hk
    have HF : Hid (hasB s k = s.testBit k) := Lib.hid (by unfold hasB; rw [decide_eq_true h]; simp)
    clear hs h
    go_enter Tryd.func27, Tryd.ntmps27
    go_wp2_with (first | (go_at_call 67; refine (isWorld_yes _ _ (by omega)).mono ?_; rintro e w' ⟨rfl, rfl⟩) | (go_at_call 68; refine (only_any _ _ (by omega)).mono ?_; rintro e w' ⟨rfl, rfl⟩))
    go_ret
    exact ⟨ret_bool (by rw [HF.out]), rfl⟩
  · have HF : Hid (hasB s n = false) := Lib.hid (by unfold hasB; simp; omega)
    clear hs
    go_enter Tryd.func27, Tryd.ntmps27
    go_wp2_with (go_at_call 67; refine (isWorld_no _ _ h).mono ?_; rintro e w' ⟨rfl, rfl⟩)
    go_ret
    exact ⟨ret_bool (by rw [HF.out]), rfl⟩
theorem refHas_any (s : Nat) (n : Int) (w : World) (hs : s < 18446744073709551616) :
    Calls Tryd.prog 28 #[.int .u64 s, .int .i64 n] w fun e w' => e = .returned (.bool (hasB s n)) ∧ w = w' := by
  by_cases h : 0 ≤ n ∧ n < 64
  · obtain ⟨k, rfl⟩ := Int.eq_ofNat_of_zero_le h.1
    have hk : k < 64 := by omega
    have hh := and_pow s k hs hk
    have HF : Hid (hasB s k = s.testBit k) := Lib.hid (by unfold hasB; rw [decide_eq_true h]; simp)
    clear hs h
    go_enter Tryd.func28, Tryd.ntmps28
    go_wp2_with (go_at_call 69; refine (bit_any _ _ (by omega)).mono ?_; rintro e w' ⟨rfl, rfl⟩)
    go_ret
    exact ⟨ret_bool (by rw [HF.out]), rfl⟩
  · have HF : Hid (hasB s n = false) := Lib.hid (by unfold hasB; simp; omega)
    clear hs
    by_cases h0 : 0 ≤ n
    · have h1 : ¬ n < 64 := by omega
      clear h
      go_enter Tryd.func28, Tryd.ntmps28
      go_wp2
      go_ret
      exact ⟨ret_bool (by rw [HF.out]), rfl⟩
    · clear h
      go_enter Tryd.func28, Tryd.ntmps28
      go_wp2
      go_ret
      exact ⟨ret_bool (by rw [HF.out]), rfl⟩
/-- the worlds 0 to n - 1, for n from 0 to 64; else none -/
def allV (n : Int) : Nat := if 0 ≤ n ∧ n ≤ 64 then 2 ^ n.toNat - 1 else 0
theorem bits_and_nn (a b : Nat) (ha : a < 18446744073709551616) (hb : b < 18446744073709551616) : bits .and .u64 (a : Int) (b : Int) = ((a &&& b : Nat) : Int) := u64_and_nat a b ha hb
theorem ones_steps (s : Nat) (hs : s < 18446744073709551616) : ∃ a1 a2 a3 a4 a5 a6 : Nat,
    IntKind.u64.wrap (bits .and .u64 ((s : Int) / 2) 6148914691236517205 + bits .and .u64 (s : Int) 6148914691236517205) = (a1 : Int) ∧
    IntKind.u64.wrap (bits .and .u64 ((a1 : Int) / 4) 3689348814741910323 + bits .and .u64 (a1 : Int) 3689348814741910323) = (a2 : Int) ∧
    bits .and .u64 (IntKind.u64.wrap ((a2 : Int) / 16 + (a2 : Int))) 1085102592571150095 = (a3 : Int) ∧
    IntKind.u64.wrap ((a3 : Int) + (a3 : Int) / 256) = (a4 : Int) ∧ IntKind.u64.wrap ((a4 : Int) + (a4 : Int) / 65536) = (a5 : Int) ∧
    IntKind.u64.wrap ((a5 : Int) + (a5 : Int) / 4294967296) = (a6 : Int) ∧ bits .and .i64 (wrap64 (a6 : Int)) 127 = ((mem s).length : Int) := by
  obtain ⟨a1, a2, a3, a4, a5, a6, e1, e2, e3, e4, e5, e6, h1, h2, h3, h4, h5, h6, h7⟩ := swar s
  refine ⟨a1, a2, a3, a4, a5, a6, ?_, ?_, ?_, ?_, ?_, ?_, ?_⟩
  · have x1 := bits_and_nn (s / 2) 6148914691236517205 (by omega) (by omega)
    have x2 := bits_and_nn s 6148914691236517205 hs (by omega)
    rw [show ((s : Int) / 2) = ((s / 2 : Nat) : Int) from by omega, show (6148914691236517205 : Int) = ((6148914691236517205 : Nat) : Int) from rfl, x1, x2, IntKind.wrap_u64]
    clear e2 e3 e4 e5 e6 x1 x2
    omega
  · have x1 := bits_and_nn (a1 / 4) 3689348814741910323 (by omega) (by omega)
    have x2 := bits_and_nn a1 3689348814741910323 (by omega) (by omega)
    rw [show ((a1 : Int) / 4) = ((a1 / 4 : Nat) : Int) from by omega, show (3689348814741910323 : Int) = ((3689348814741910323 : Nat) : Int) from rfl, x1, x2, IntKind.wrap_u64]
    clear e1 e3 e4 e5 e6 x1 x2
    omega
  · have y : IntKind.u64.wrap ((a2 : Int) / 16 + (a2 : Int)) = ((a2 / 16 + a2 : Nat) : Int) := by
      rw [IntKind.wrap_u64]; clear e1 e2 e3 e4 e5 e6; omega
    have x1 := bits_and_nn (a2 / 16 + a2) 1085102592571150095 h2 (by omega)
    rw [y, show (1085102592571150095 : Int) = ((1085102592571150095 : Nat) : Int) from rfl, x1, e3]
  · rw [IntKind.wrap_u64]; clear e1 e2 e3 e5 e6; omega
  · rw [IntKind.wrap_u64]; clear e1 e2 e3 e4 e6; omega
  · rw [IntKind.wrap_u64]; clear e1 e2 e3 e4 e5; omega
  · have y : wrap64 (a6 : Int) = (a6 : Int) := IntWalk.wrap64_in _ ⟨by omega, by omega⟩
    rw [y, i64_and127, ← h7]
    omega
theorem ones_any (s : Nat) (w : World) (hs : s < 18446744073709551616) :
    Calls Tryd.prog 71 #[.int .u64 s] w fun e w' => e = .returned (.int .i64 ((mem s).length : Int)) ∧ w = w' := by
  obtain ⟨a1, a2, a3, a4, a5, a6, e1, e2, e3, e4, e5, e6, e7⟩ := ones_steps s hs
  clear hs
  go_enter Tryd.func71, Tryd.ntmps71
  go_wp2
  go_ret
  exact ⟨rfl, rfl⟩
theorem wrap_allV (k : Nat) (h : k ≤ 64) : IntKind.u64.wrap (IntKind.u64.wrap ((2 : Int) ^ k) - 1) = (allV k : Int) := by
  have e0 : allV k = 2 ^ k - 1 := by unfold allV; rw [if_pos (by omega)]; rfl
  rw [e0]
  by_cases h1 : k = 64
  · subst h1; decide
  · have h2 := wrap_pow k (by omega)
    have h3 : p2 k < 18446744073709551616 := Nat.pow_lt_pow_right (by decide) (show k < 64 by omega)
    have h4 : 0 < p2 k := Nat.two_pow_pos k
    rw [h2, show 2 ^ k = p2 k from rfl, IntKind.wrap_u64]
    omega
theorem allV_lt (n : Int) : allV n < 18446744073709551616 := by
  unfold allV
  split
  · rename_i h
    have : 2 ^ n.toNat ≤ 2 ^ 64 := Nat.pow_le_pow_right (by decide) (by omega)
    omega
  · omega
theorem all_any (n : Int) (w : World) :
    Calls Tryd.prog 18 #[.int .i64 n] w fun e w' => e = .returned (.int .u64 (allV n : Int)) ∧ w = w' := by
  by_cases h0 : 0 ≤ n
  · by_cases h1 : n ≤ 64
    · obtain ⟨k, rfl⟩ := Int.eq_ofNat_of_zero_le h0
      have hk : ¬ (64 < (k : Int)) := by omega
      have hv := wrap_allV k (by omega)
      clear h0 h1
      go_enter Tryd.func18, Tryd.ntmps18
      go_wp2
      go_ret
      exact ⟨rfl, rfl⟩
    · have HV : Hid (allV n = 0) := Lib.hid (by unfold allV; rw [if_neg (by omega)])
      go_enter Tryd.func18, Tryd.ntmps18
      go_wp2
      go_ret
      exact ⟨ret_u64 (by rw [HV.out]; rfl), rfl⟩
  · have HV : Hid (allV n = 0) := Lib.hid (by unfold allV; rw [if_neg (by omega)])
    go_enter Tryd.func18, Tryd.ntmps18
    go_wp2
    go_ret
    exact ⟨ret_u64 (by rw [HV.out]; rfl), rfl⟩
theorem allV_succ (k : Nat) (h : k < 64) : bits .or .u64 (allV k : Int) (p2 k : Int) = (allV ((k : Int) + 1) : Int) := by
  have e0 : allV k = 2 ^ k - 1 := by unfold allV; rw [if_pos (by omega)]; rfl
  have e1 : allV ((k : Int) + 1) = 2 ^ (k + 1) - 1 := by unfold allV; rw [if_pos (by omega)]; rfl
  have h3 : p2 k < 18446744073709551616 := Nat.pow_lt_pow_right (by decide) h
  rw [u64_or_nat _ _ (allV_lt _) h3, e0, e1]
  congr 1
  have hp := Nat.two_pow_pos k
  rw [Nat.or_comm, nat_join k (p2 k) (2 ^ k - 1) (by unfold p2; exact Nat.mod_self _) (by omega), Nat.pow_succ]
  unfold p2
  omega
theorem refAll_any (n : Int) (w : World) :
    Calls Tryd.prog 19 #[.int .i64 n] w fun e w' => e = .returned (.int .u64 (allV n : Int)) ∧ w = w' := by
  by_cases h1 : n ≤ 64
  · have h1' : ¬ (64 < n) := by omega
    by_cases h0 : 0 ≤ n
    · obtain ⟨m, rfl⟩ := Int.eq_ofNat_of_zero_le h0
      clear h0 h1'
      go_enter Tryd.func19, Tryd.ntmps19
      go_wp2
      go_loop [3, 4] (fun s i => ∃ k : Nat, k ≤ m ∧ i = .int .i64 k ∧ s = .int .u64 (allV k : Int)) (fun _ i => m - (intOf i).toNat)
      case atStart => exact ⟨0, Nat.zero_le _, rfl, rfl⟩
      case round =>
        obtain ⟨k, hk, rfl, rfl⟩ := hrel
        by_cases hlt : k < m
        · have hs := allV_succ k (by omega)
          go_wp2_with (go_at_call 69; refine (bit_any _ _ (by omega)).mono ?_; rintro e w' ⟨rfl, rfl⟩)
          go_round
          case rel => exact ⟨k + 1, by omega, by go_num, by go_num⟩
          case measure => simp [intOf]; omega
        · have hkm : k = m := by omega
          subst hkm
          go_wp2
          go_ret
          exact ⟨rfl, rfl⟩
    · have HV : Hid (allV n = 0) := Lib.hid (by unfold allV; rw [if_neg (by omega)])
      have hn : n ≤ 0 := by omega
      clear h0 h1'
      go_enter Tryd.func19, Tryd.ntmps19
      go_wp2
      go_loop [3, 4] (fun s i => i = .int .i64 0 ∧ s = .int .u64 0) (fun _ i => 0)
      case atStart => exact ⟨rfl, rfl⟩
      case round =>
        obtain ⟨rfl, rfl⟩ := hrel
        go_wp2
        go_ret
        exact ⟨ret_u64 (by rw [HV.out]; rfl), rfl⟩
  · have HV : Hid (allV n = 0) := Lib.hid (by unfold allV; rw [if_neg (by omega)])
    go_enter Tryd.func19, Tryd.ntmps19
    go_wp2
    go_ret
    exact ⟨ret_u64 (by rw [HV.out]; rfl), rfl⟩
theorem count_any (s : Nat) (w : World) (hs : s < 18446744073709551616) :
    Calls Tryd.prog 23 #[.int .u64 s] w fun e w' => e = .returned (.int .i64 ((mem s).length : Int)) ∧ w = w' := by
  have H := Lib.hid (ones_any s w hs)
  clear hs
  go_enter Tryd.func23, Tryd.ntmps23
  go_wp2_with (go_at_call 71; refine (H.out).mono ?_; rintro e w' ⟨rfl, rfl⟩)
  go_ret
  exact ⟨rfl, rfl⟩
end Go.Proofs.YtnkjcieeckibbaaDoor
