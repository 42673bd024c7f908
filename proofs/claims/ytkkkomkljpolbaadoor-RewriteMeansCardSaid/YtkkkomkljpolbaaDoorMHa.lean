/- Layer 6: texts joined: Hma Hmb Hmn. -/
import Derived.Test.YtkkkomkljpolbaaDoorMRa
import Derived.Test.YtkkkomkljpolbaaDoorMRl
/- Layer 8: the law's worlds that know a set, and those at the end of paths. -/
namespace Go.Proofs.YtkkkomkljpolbaaDoor
open Go.RowKit Go.Proofs.Ws Go.Maps
set_option maxRecDepth 100000
def stepTo (both gb : Bool) (to t : Int) : Int := if gb = true then (if both = true then bits .and .u8 to t else bits .or .u8 to (bits .and .u8 t 15)) else to
def toI (both b0 b1 : Bool) (T : Nat → Nat → Int) (k : Nat) : Nat → Int
  | 0 => if both = true then 15 else 0
  | j + 1 => stepTo both (if j = 0 then b0 else b1) (toI both b0 b1 T k j) (T k j)
def pw (k : Nat) : Int := if k = 0 then 1 else if k = 1 then 2 else if k = 2 then 4 else 8
def outI (both b0 b1 : Bool) (T : Nat → Nat → Int) (s : Int) : Nat → Int
  | 0 => 0
  | k + 1 => if bits .andNot .u8 (toI both b0 b1 T k 2) s = 0 then bits .or .u8 (outI both b0 b1 T s k) (pw k) else outI both b0 b1 T s k
def mV (F : Nat → Int) (T : Nat → Nat → Int) : Value := .agg #[.int .u8 (F 0), .int .u8 (T 0 0), .int .u8 (T 0 1), .int .u8 (F 1), .int .u8 (T 1 0), .int .u8 (T 1 1), .int .u8 (F 2), .int .u8 (T 2 0), .int .u8 (T 2 1), .int .u8 (F 3), .int .u8 (T 3 0), .int .u8 (T 3 1)]
set_option maxHeartbeats 16000000 in
theorem after_any (F : Nat → Int) (T : Nat → Nat → Int) (g : Int) (b0 b1 both : Bool) (s : Int) (hg : (g = 1 ∧ b0 = true ∧ b1 = false) ∨ (g = 2 ∧ b0 = false ∧ b1 = true) ∨ (g = 3 ∧ b0 = true ∧ b1 = true)) (w : World) :
    Calls Tryd.prog 76 #[mV F T, .int .i64 g, .bool both, .int .u8 s] w fun e w' => e = .returned (.int .u8 (outI both b0 b1 T s 4)) ∧ Below w.heap.size w w' := by
  unfold mV
  have HS : Hid (∀ k, outI both b0 b1 T s (k + 1) = if bits .andNot .u8 (toI both b0 b1 T k 2) s = 0 then bits .or .u8 (outI both b0 b1 T s k) (pw k) else outI both b0 b1 T s k) := Lib.hid (fun k => rfl)
  have HZ : Hid (outI both b0 b1 T s 0 = 0) := Lib.hid rfl
  have HT : Hid (∀ k j, toI both b0 b1 T k (j + 1) = stepTo both (if j = 0 then b0 else b1) (toI both b0 b1 T k j) (T k j)) := Lib.hid (fun k j => rfl)
  have HTZ : Hid (∀ k, toI both b0 b1 T k 0 = if both = true then 15 else 0) := Lib.hid (fun k => rfl)
  generalize outI both b0 b1 T s = out at *
  generalize toI both b0 b1 T = to at *
  go_enter Tryd.func76, Tryd.ntmps76
  go_wp2
  go_loopw [9, 10, 11, 12, 13] (fun o _ _ _ i wr => ∃ k : Nat, k ≤ 4 ∧ i = .int .i64 k ∧ o = .int .u8 (out k) ∧ wr = _) (fun _ _ _ _ i _ => 4 - (intOf i).toNat)
  case atStart => exact ⟨0, by omega, rfl, by rw [HZ.out], by trivial⟩
  case round =>
    obtain ⟨k, hk, rfl, rfl, rfl⟩ := hrel
    by_cases h4 : k = 4
    · subst h4
      go_wp2
      go_ret
      exact ⟨rfl, (Below.refl _ w).alloc (Nat.le_refl _) _⟩
    · have hk4 : k = 0 ∨ k = 1 ∨ k = 2 ∨ k = 3 := by omega
      clear hk h4
      rcases hk4 with rfl | rfl | rfl | rfl
      · rcases hg with ⟨rfl, rfl, rfl⟩ | ⟨rfl, rfl, rfl⟩ | ⟨rfl, rfl, rfl⟩
        · cases both
          · go_wp2
            go_loopw [11, 12, 17] (fun t _ i wr => ∃ j : Nat, j ≤ 2 ∧ i = .int .i64 j ∧ t = .int .u8 (to 0 j) ∧ wr = _) (fun _ _ i _ => 2 - (intOf i).toNat)
            case atStart => exact ⟨0, by omega, rfl, congrArg (Value.int .u8) (HTZ.out 0).symm, by trivial⟩
            case round =>
              obtain ⟨j, hj, rfl, rfl, rfl⟩ := hrel
              have hj2 : j = 0 ∨ j = 1 ∨ j = 2 := by omega
              clear hj
              rcases hj2 with rfl | rfl | rfl
              · go_wp2
                go_roundw
                case rel => exact ⟨1, by omega, rfl, congrArg (Value.int .u8) (HT.out 0 0).symm, by trivial⟩
                case measure => first | (simp [intOf]; done) | (simp [intOf]; omega)
              · go_wp2
                go_roundw
                case rel => exact ⟨2, by omega, rfl, congrArg (Value.int .u8) (HT.out 0 1).symm, by trivial⟩
                case measure => first | (simp [intOf]; done) | (simp [intOf]; omega)
              · by_cases hz : bits .andNot .u8 (to 0 2) s = 0
                · have hzb : (bits .andNot .u8 (to 0 2) s == 0) = true := by rw [hz]; rfl
                  have HE : Hid (out (0 + 1) = bits .or .u8 (out 0) (pw 0)) := Lib.hid (by rw [HS.out, if_pos hz])
                  clear hz
                  go_wp2
                  go_roundw
                  case rel => exact ⟨0 + 1, by omega, rfl, congrArg (Value.int .u8) HE.out.symm, by trivial⟩
                  case measure => first | (simp [intOf]; done) | (simp [intOf]; omega)
                · have hzb : (bits .andNot .u8 (to 0 2) s == 0) = false := by simpa using hz
                  have HE : Hid (out (0 + 1) = out 0) := Lib.hid (by rw [HS.out, if_neg hz])
                  clear hz
                  go_wp2
                  go_roundw
                  case rel => exact ⟨0 + 1, by omega, rfl, congrArg (Value.int .u8) HE.out.symm, by trivial⟩
                  case measure => first | (simp [intOf]; done) | (simp [intOf]; omega)
          · go_wp2
            go_loopw [11, 12, 17] (fun t _ i wr => ∃ j : Nat, j ≤ 2 ∧ i = .int .i64 j ∧ t = .int .u8 (to 0 j) ∧ wr = _) (fun _ _ i _ => 2 - (intOf i).toNat)
            case atStart => exact ⟨0, by omega, rfl, congrArg (Value.int .u8) (HTZ.out 0).symm, by trivial⟩
            case round =>
              obtain ⟨j, hj, rfl, rfl, rfl⟩ := hrel
              have hj2 : j = 0 ∨ j = 1 ∨ j = 2 := by omega
              clear hj
              rcases hj2 with rfl | rfl | rfl
              · go_wp2
                go_roundw
                case rel => exact ⟨1, by omega, rfl, congrArg (Value.int .u8) (HT.out 0 0).symm, by trivial⟩
                case measure => first | (simp [intOf]; done) | (simp [intOf]; omega)
              · go_wp2
                go_roundw
                case rel => exact ⟨2, by omega, rfl, congrArg (Value.int .u8) (HT.out 0 1).symm, by trivial⟩
                case measure => first | (simp [intOf]; done) | (simp [intOf]; omega)
              · by_cases hz : bits .andNot .u8 (to 0 2) s = 0
                · have hzb : (bits .andNot .u8 (to 0 2) s == 0) = true := by rw [hz]; rfl
                  have HE : Hid (out (0 + 1) = bits .or .u8 (out 0) (pw 0)) := Lib.hid (by rw [HS.out, if_pos hz])
                  clear hz
                  go_wp2
                  go_roundw
                  case rel => exact ⟨0 + 1, by omega, rfl, congrArg (Value.int .u8) HE.out.symm, by trivial⟩
                  case measure => first | (simp [intOf]; done) | (simp [intOf]; omega)
                · have hzb : (bits .andNot .u8 (to 0 2) s == 0) = false := by simpa using hz
                  have HE : Hid (out (0 + 1) = out 0) := Lib.hid (by rw [HS.out, if_neg hz])
                  clear hz
                  go_wp2
                  go_roundw
                  case rel => exact ⟨0 + 1, by omega, rfl, congrArg (Value.int .u8) HE.out.symm, by trivial⟩
                  case measure => first | (simp [intOf]; done) | (simp [intOf]; omega)
        · cases both
          · go_wp2
            go_loopw [11, 12, 17] (fun t _ i wr => ∃ j : Nat, j ≤ 2 ∧ i = .int .i64 j ∧ t = .int .u8 (to 0 j) ∧ wr = _) (fun _ _ i _ => 2 - (intOf i).toNat)
            case atStart => exact ⟨0, by omega, rfl, congrArg (Value.int .u8) (HTZ.out 0).symm, by trivial⟩
            case round =>
              obtain ⟨j, hj, rfl, rfl, rfl⟩ := hrel
              have hj2 : j = 0 ∨ j = 1 ∨ j = 2 := by omega
              clear hj
              rcases hj2 with rfl | rfl | rfl
              · go_wp2
                go_roundw
                case rel => exact ⟨1, by omega, rfl, congrArg (Value.int .u8) (HT.out 0 0).symm, by trivial⟩
                case measure => first | (simp [intOf]; done) | (simp [intOf]; omega)
              · go_wp2
                go_roundw
                case rel => exact ⟨2, by omega, rfl, congrArg (Value.int .u8) (HT.out 0 1).symm, by trivial⟩
                case measure => first | (simp [intOf]; done) | (simp [intOf]; omega)
              · by_cases hz : bits .andNot .u8 (to 0 2) s = 0
                · have hzb : (bits .andNot .u8 (to 0 2) s == 0) = true := by rw [hz]; rfl
                  have HE : Hid (out (0 + 1) = bits .or .u8 (out 0) (pw 0)) := Lib.hid (by rw [HS.out, if_pos hz])
                  clear hz
                  go_wp2
                  go_roundw
                  case rel => exact ⟨0 + 1, by omega, rfl, congrArg (Value.int .u8) HE.out.symm, by trivial⟩
                  case measure => first | (simp [intOf]; done) | (simp [intOf]; omega)
                · have hzb : (bits .andNot .u8 (to 0 2) s == 0) = false := by simpa using hz
                  have HE : Hid (out (0 + 1) = out 0) := Lib.hid (by rw [HS.out, if_neg hz])
                  clear hz
                  go_wp2
                  go_roundw
                  case rel => exact ⟨0 + 1, by omega, rfl, congrArg (Value.int .u8) HE.out.symm, by trivial⟩
                  case measure => first | (simp [intOf]; done) | (simp [intOf]; omega)
          · go_wp2
            go_loopw [11, 12, 17] (fun t _ i wr => ∃ j : Nat, j ≤ 2 ∧ i = .int .i64 j ∧ t = .int .u8 (to 0 j) ∧ wr = _) (fun _ _ i _ => 2 - (intOf i).toNat)
            case atStart => exact ⟨0, by omega, rfl, congrArg (Value.int .u8) (HTZ.out 0).symm, by trivial⟩
            case round =>
              obtain ⟨j, hj, rfl, rfl, rfl⟩ := hrel
              have hj2 : j = 0 ∨ j = 1 ∨ j = 2 := by omega
              clear hj
              rcases hj2 with rfl | rfl | rfl
              · go_wp2
                go_roundw
                case rel => exact ⟨1, by omega, rfl, congrArg (Value.int .u8) (HT.out 0 0).symm, by trivial⟩
                case measure => first | (simp [intOf]; done) | (simp [intOf]; omega)
              · go_wp2
                go_roundw
                case rel => exact ⟨2, by omega, rfl, congrArg (Value.int .u8) (HT.out 0 1).symm, by trivial⟩
                case measure => first | (simp [intOf]; done) | (simp [intOf]; omega)
              · by_cases hz : bits .andNot .u8 (to 0 2) s = 0
                · have hzb : (bits .andNot .u8 (to 0 2) s == 0) = true := by rw [hz]; rfl
                  have HE : Hid (out (0 + 1) = bits .or .u8 (out 0) (pw 0)) := Lib.hid (by rw [HS.out, if_pos hz])
                  clear hz
                  go_wp2
                  go_roundw
                  case rel => exact ⟨0 + 1, by omega, rfl, congrArg (Value.int .u8) HE.out.symm, by trivial⟩
                  case measure => first | (simp [intOf]; done) | (simp [intOf]; omega)
                · have hzb : (bits .andNot .u8 (to 0 2) s == 0) = false := by simpa using hz
                  have HE : Hid (out (0 + 1) = out 0) := Lib.hid (by rw [HS.out, if_neg hz])
                  clear hz
                  go_wp2
                  go_roundw
                  case rel => exact ⟨0 + 1, by omega, rfl, congrArg (Value.int .u8) HE.out.symm, by trivial⟩
                  case measure => first | (simp [intOf]; done) | (simp [intOf]; omega)
        · cases both
          · go_wp2
            go_loopw [11, 12, 17] (fun t _ i wr => ∃ j : Nat, j ≤ 2 ∧ i = .int .i64 j ∧ t = .int .u8 (to 0 j) ∧ wr = _) (fun _ _ i _ => 2 - (intOf i).toNat)
            case atStart => exact ⟨0, by omega, rfl, congrArg (Value.int .u8) (HTZ.out 0).symm, by trivial⟩
            case round =>
              obtain ⟨j, hj, rfl, rfl, rfl⟩ := hrel
              have hj2 : j = 0 ∨ j = 1 ∨ j = 2 := by omega
              clear hj
              rcases hj2 with rfl | rfl | rfl
              · go_wp2
                go_roundw
                case rel => exact ⟨1, by omega, rfl, congrArg (Value.int .u8) (HT.out 0 0).symm, by trivial⟩
                case measure => first | (simp [intOf]; done) | (simp [intOf]; omega)
              · go_wp2
                go_roundw
                case rel => exact ⟨2, by omega, rfl, congrArg (Value.int .u8) (HT.out 0 1).symm, by trivial⟩
                case measure => first | (simp [intOf]; done) | (simp [intOf]; omega)
              · by_cases hz : bits .andNot .u8 (to 0 2) s = 0
                · have hzb : (bits .andNot .u8 (to 0 2) s == 0) = true := by rw [hz]; rfl
                  have HE : Hid (out (0 + 1) = bits .or .u8 (out 0) (pw 0)) := Lib.hid (by rw [HS.out, if_pos hz])
                  clear hz
                  go_wp2
                  go_roundw
                  case rel => exact ⟨0 + 1, by omega, rfl, congrArg (Value.int .u8) HE.out.symm, by trivial⟩
                  case measure => first | (simp [intOf]; done) | (simp [intOf]; omega)
                · have hzb : (bits .andNot .u8 (to 0 2) s == 0) = false := by simpa using hz
                  have HE : Hid (out (0 + 1) = out 0) := Lib.hid (by rw [HS.out, if_neg hz])
                  clear hz
                  go_wp2
                  go_roundw
                  case rel => exact ⟨0 + 1, by omega, rfl, congrArg (Value.int .u8) HE.out.symm, by trivial⟩
                  case measure => first | (simp [intOf]; done) | (simp [intOf]; omega)
          · go_wp2
            go_loopw [11, 12, 17] (fun t _ i wr => ∃ j : Nat, j ≤ 2 ∧ i = .int .i64 j ∧ t = .int .u8 (to 0 j) ∧ wr = _) (fun _ _ i _ => 2 - (intOf i).toNat)
            case atStart => exact ⟨0, by omega, rfl, congrArg (Value.int .u8) (HTZ.out 0).symm, by trivial⟩
            case round =>
              obtain ⟨j, hj, rfl, rfl, rfl⟩ := hrel
              have hj2 : j = 0 ∨ j = 1 ∨ j = 2 := by omega
              clear hj
              rcases hj2 with rfl | rfl | rfl
              · go_wp2
                go_roundw
                case rel => exact ⟨1, by omega, rfl, congrArg (Value.int .u8) (HT.out 0 0).symm, by trivial⟩
                case measure => first | (simp [intOf]; done) | (simp [intOf]; omega)
              · go_wp2
                go_roundw
                case rel => exact ⟨2, by omega, rfl, congrArg (Value.int .u8) (HT.out 0 1).symm, by trivial⟩
                case measure => first | (simp [intOf]; done) | (simp [intOf]; omega)
              · by_cases hz : bits .andNot .u8 (to 0 2) s = 0
                · have hzb : (bits .andNot .u8 (to 0 2) s == 0) = true := by rw [hz]; rfl
                  have HE : Hid (out (0 + 1) = bits .or .u8 (out 0) (pw 0)) := Lib.hid (by rw [HS.out, if_pos hz])
                  clear hz
                  go_wp2
                  go_roundw
                  case rel => exact ⟨0 + 1, by omega, rfl, congrArg (Value.int .u8) HE.out.symm, by trivial⟩
                  case measure => first | (simp [intOf]; done) | (simp [intOf]; omega)
                · have hzb : (bits .andNot .u8 (to 0 2) s == 0) = false := by simpa using hz
                  have HE : Hid (out (0 + 1) = out 0) := Lib.hid (by rw [HS.out, if_neg hz])
                  clear hz
                  go_wp2
                  go_roundw
                  case rel => exact ⟨0 + 1, by omega, rfl, congrArg (Value.int .u8) HE.out.symm, by trivial⟩
                  case measure => first | (simp [intOf]; done) | (simp [intOf]; omega)
      · rcases hg with ⟨rfl, rfl, rfl⟩ | ⟨rfl, rfl, rfl⟩ | ⟨rfl, rfl, rfl⟩
        · cases both
          · go_wp2
            go_loopw [11, 12, 17] (fun t _ i wr => ∃ j : Nat, j ≤ 2 ∧ i = .int .i64 j ∧ t = .int .u8 (to 1 j) ∧ wr = _) (fun _ _ i _ => 2 - (intOf i).toNat)
            case atStart => exact ⟨0, by omega, rfl, congrArg (Value.int .u8) (HTZ.out 1).symm, by trivial⟩
            case round =>
              obtain ⟨j, hj, rfl, rfl, rfl⟩ := hrel
              have hj2 : j = 0 ∨ j = 1 ∨ j = 2 := by omega
              clear hj
              rcases hj2 with rfl | rfl | rfl
              · go_wp2
                go_roundw
                case rel => exact ⟨1, by omega, rfl, congrArg (Value.int .u8) (HT.out 1 0).symm, by trivial⟩
                case measure => first | (simp [intOf]; done) | (simp [intOf]; omega)
              · go_wp2
                go_roundw
                case rel => exact ⟨2, by omega, rfl, congrArg (Value.int .u8) (HT.out 1 1).symm, by trivial⟩
                case measure => first | (simp [intOf]; done) | (simp [intOf]; omega)
              · by_cases hz : bits .andNot .u8 (to 1 2) s = 0
                · have hzb : (bits .andNot .u8 (to 1 2) s == 0) = true := by rw [hz]; rfl
                  have HE : Hid (out (1 + 1) = bits .or .u8 (out 1) (pw 1)) := Lib.hid (by rw [HS.out, if_pos hz])
                  clear hz
                  go_wp2
                  go_roundw
                  case rel => exact ⟨1 + 1, by omega, rfl, congrArg (Value.int .u8) HE.out.symm, by trivial⟩
                  case measure => first | (simp [intOf]; done) | (simp [intOf]; omega)
                · have hzb : (bits .andNot .u8 (to 1 2) s == 0) = false := by simpa using hz
                  have HE : Hid (out (1 + 1) = out 1) := Lib.hid (by rw [HS.out, if_neg hz])
                  clear hz
                  go_wp2
                  go_roundw
                  case rel => exact ⟨1 + 1, by omega, rfl, congrArg (Value.int .u8) HE.out.symm, by trivial⟩
                  case measure => first | (simp [intOf]; done) | (simp [intOf]; omega)
          · go_wp2
            go_loopw [11, 12, 17] (fun t _ i wr => ∃ j : Nat, j ≤ 2 ∧ i = .int .i64 j ∧ t = .int .u8 (to 1 j) ∧ wr = _) (fun _ _ i _ => 2 - (intOf i).toNat)
            case atStart => exact ⟨0, by omega, rfl, congrArg (Value.int .u8) (HTZ.out 1).symm, by trivial⟩
            case round =>
              obtain ⟨j, hj, rfl, rfl, rfl⟩ := hrel
              have hj2 : j = 0 ∨ j = 1 ∨ j = 2 := by omega
              clear hj
              rcases hj2 with rfl | rfl | rfl
              · go_wp2
                go_roundw
                case rel => exact ⟨1, by omega, rfl, congrArg (Value.int .u8) (HT.out 1 0).symm, by trivial⟩
                case measure => first | (simp [intOf]; done) | (simp [intOf]; omega)
              · go_wp2
                go_roundw
                case rel => exact ⟨2, by omega, rfl, congrArg (Value.int .u8) (HT.out 1 1).symm, by trivial⟩
                case measure => first | (simp [intOf]; done) | (simp [intOf]; omega)
              · by_cases hz : bits .andNot .u8 (to 1 2) s = 0
                · have hzb : (bits .andNot .u8 (to 1 2) s == 0) = true := by rw [hz]; rfl
                  have HE : Hid (out (1 + 1) = bits .or .u8 (out 1) (pw 1)) := Lib.hid (by rw [HS.out, if_pos hz])
                  clear hz
                  go_wp2
                  go_roundw
                  case rel => exact ⟨1 + 1, by omega, rfl, congrArg (Value.int .u8) HE.out.symm, by trivial⟩
                  case measure => first | (simp [intOf]; done) | (simp [intOf]; omega)
                · have hzb : (bits .andNot .u8 (to 1 2) s == 0) = false := by simpa using hz
                  have HE : Hid (out (1 + 1) = out 1) := Lib.hid (by rw [HS.out, if_neg hz])
                  clear hz
                  go_wp2
                  go_roundw
                  case rel => exact ⟨1 + 1, by omega, rfl, congrArg (Value.int .u8) HE.out.symm, by trivial⟩
                  case measure => first | (simp [intOf]; done) | (simp [intOf]; omega)
        · cases both
          · go_wp2
            go_loopw [11, 12, 17] (fun t _ i wr => ∃ j : Nat, j ≤ 2 ∧ i = .int .i64 j ∧ t = .int .u8 (to 1 j) ∧ wr = _) (fun _ _ i _ => 2 - (intOf i).toNat)
            case atStart => exact ⟨0, by omega, rfl, congrArg (Value.int .u8) (HTZ.out 1).symm, by trivial⟩
            case round =>
              obtain ⟨j, hj, rfl, rfl, rfl⟩ := hrel
              have hj2 : j = 0 ∨ j = 1 ∨ j = 2 := by omega
              clear hj
              rcases hj2 with rfl | rfl | rfl
              · go_wp2
                go_roundw
                case rel => exact ⟨1, by omega, rfl, congrArg (Value.int .u8) (HT.out 1 0).symm, by trivial⟩
                case measure => first | (simp [intOf]; done) | (simp [intOf]; omega)
              · go_wp2
                go_roundw
                case rel => exact ⟨2, by omega, rfl, congrArg (Value.int .u8) (HT.out 1 1).symm, by trivial⟩
                case measure => first | (simp [intOf]; done) | (simp [intOf]; omega)
              · by_cases hz : bits .andNot .u8 (to 1 2) s = 0
                · have hzb : (bits .andNot .u8 (to 1 2) s == 0) = true := by rw [hz]; rfl
                  have HE : Hid (out (1 + 1) = bits .or .u8 (out 1) (pw 1)) := Lib.hid (by rw [HS.out, if_pos hz])
                  clear hz
                  go_wp2
                  go_roundw
                  case rel => exact ⟨1 + 1, by omega, rfl, congrArg (Value.int .u8) HE.out.symm, by trivial⟩
                  case measure => first | (simp [intOf]; done) | (simp [intOf]; omega)
                · have hzb : (bits .andNot .u8 (to 1 2) s == 0) = false := by simpa using hz
                  have HE : Hid (out (1 + 1) = out 1) := Lib.hid (by rw [HS.out, if_neg hz])
                  clear hz
                  go_wp2
                  go_roundw
                  case rel => exact ⟨1 + 1, by omega, rfl, congrArg (Value.int .u8) HE.out.symm, by trivial⟩
                  case measure => first | (simp [intOf]; done) | (simp [intOf]; omega)
          · go_wp2
            go_loopw [11, 12, 17] (fun t _ i wr => ∃ j : Nat, j ≤ 2 ∧ i = .int .i64 j ∧ t = .int .u8 (to 1 j) ∧ wr = _) (fun _ _ i _ => 2 - (intOf i).toNat)
            case atStart => exact ⟨0, by omega, rfl, congrArg (Value.int .u8) (HTZ.out 1).symm, by trivial⟩
            case round =>
              obtain ⟨j, hj, rfl, rfl, rfl⟩ := hrel
              have hj2 : j = 0 ∨ j = 1 ∨ j = 2 := by omega
              clear hj
              rcases hj2 with rfl | rfl | rfl
              · go_wp2
                go_roundw
                case rel => exact ⟨1, by omega, rfl, congrArg (Value.int .u8) (HT.out 1 0).symm, by trivial⟩
                case measure => first | (simp [intOf]; done) | (simp [intOf]; omega)
              · go_wp2
                go_roundw
                case rel => exact ⟨2, by omega, rfl, congrArg (Value.int .u8) (HT.out 1 1).symm, by trivial⟩
                case measure => first | (simp [intOf]; done) | (simp [intOf]; omega)
              · by_cases hz : bits .andNot .u8 (to 1 2) s = 0
                · have hzb : (bits .andNot .u8 (to 1 2) s == 0) = true := by rw [hz]; rfl
                  have HE : Hid (out (1 + 1) = bits .or .u8 (out 1) (pw 1)) := Lib.hid (by rw [HS.out, if_pos hz])
                  clear hz
                  go_wp2
                  go_roundw
                  case rel => exact ⟨1 + 1, by omega, rfl, congrArg (Value.int .u8) HE.out.symm, by trivial⟩
                  case measure => first | (simp [intOf]; done) | (simp [intOf]; omega)
                · have hzb : (bits .andNot .u8 (to 1 2) s == 0) = false := by simpa using hz
                  have HE : Hid (out (1 + 1) = out 1) := Lib.hid (by rw [HS.out, if_neg hz])
                  clear hz
                  go_wp2
                  go_roundw
                  case rel => exact ⟨1 + 1, by omega, rfl, congrArg (Value.int .u8) HE.out.symm, by trivial⟩
                  case measure => first | (simp [intOf]; done) | (simp [intOf]; omega)
        · cases both
          · go_wp2
            go_loopw [11, 12, 17] (fun t _ i wr => ∃ j : Nat, j ≤ 2 ∧ i = .int .i64 j ∧ t = .int .u8 (to 1 j) ∧ wr = _) (fun _ _ i _ => 2 - (intOf i).toNat)
            case atStart => exact ⟨0, by omega, rfl, congrArg (Value.int .u8) (HTZ.out 1).symm, by trivial⟩
            case round =>
              obtain ⟨j, hj, rfl, rfl, rfl⟩ := hrel
              have hj2 : j = 0 ∨ j = 1 ∨ j = 2 := by omega
              clear hj
              rcases hj2 with rfl | rfl | rfl
              · go_wp2
                go_roundw
                case rel => exact ⟨1, by omega, rfl, congrArg (Value.int .u8) (HT.out 1 0).symm, by trivial⟩
                case measure => first | (simp [intOf]; done) | (simp [intOf]; omega)
              · go_wp2
                go_roundw
                case rel => exact ⟨2, by omega, rfl, congrArg (Value.int .u8) (HT.out 1 1).symm, by trivial⟩
                case measure => first | (simp [intOf]; done) | (simp [intOf]; omega)
              · by_cases hz : bits .andNot .u8 (to 1 2) s = 0
                · have hzb : (bits .andNot .u8 (to 1 2) s == 0) = true := by rw [hz]; rfl
                  have HE : Hid (out (1 + 1) = bits .or .u8 (out 1) (pw 1)) := Lib.hid (by rw [HS.out, if_pos hz])
                  clear hz
                  go_wp2
                  go_roundw
                  case rel => exact ⟨1 + 1, by omega, rfl, congrArg (Value.int .u8) HE.out.symm, by trivial⟩
                  case measure => first | (simp [intOf]; done) | (simp [intOf]; omega)
                · have hzb : (bits .andNot .u8 (to 1 2) s == 0) = false := by simpa using hz
                  have HE : Hid (out (1 + 1) = out 1) := Lib.hid (by rw [HS.out, if_neg hz])
                  clear hz
                  go_wp2
                  go_roundw
                  case rel => exact ⟨1 + 1, by omega, rfl, congrArg (Value.int .u8) HE.out.symm, by trivial⟩
                  case measure => first | (simp [intOf]; done) | (simp [intOf]; omega)
          · go_wp2
            go_loopw [11, 12, 17] (fun t _ i wr => ∃ j : Nat, j ≤ 2 ∧ i = .int .i64 j ∧ t = .int .u8 (to 1 j) ∧ wr = _) (fun _ _ i _ => 2 - (intOf i).toNat)
            case atStart => exact ⟨0, by omega, rfl, congrArg (Value.int .u8) (HTZ.out 1).symm, by trivial⟩
            case round =>
              obtain ⟨j, hj, rfl, rfl, rfl⟩ := hrel
              have hj2 : j = 0 ∨ j = 1 ∨ j = 2 := by omega
              clear hj
              rcases hj2 with rfl | rfl | rfl
              · go_wp2
                go_roundw
                case rel => exact ⟨1, by omega, rfl, congrArg (Value.int .u8) (HT.out 1 0).symm, by trivial⟩
                case measure => first | (simp [intOf]; done) | (simp [intOf]; omega)
              · go_wp2
                go_roundw
                case rel => exact ⟨2, by omega, rfl, congrArg (Value.int .u8) (HT.out 1 1).symm, by trivial⟩
                case measure => first | (simp [intOf]; done) | (simp [intOf]; omega)
              · by_cases hz : bits .andNot .u8 (to 1 2) s = 0
                · have hzb : (bits .andNot .u8 (to 1 2) s == 0) = true := by rw [hz]; rfl
                  have HE : Hid (out (1 + 1) = bits .or .u8 (out 1) (pw 1)) := Lib.hid (by rw [HS.out, if_pos hz])
                  clear hz
                  go_wp2
                  go_roundw
                  case rel => exact ⟨1 + 1, by omega, rfl, congrArg (Value.int .u8) HE.out.symm, by trivial⟩
                  case measure => first | (simp [intOf]; done) | (simp [intOf]; omega)
                · have hzb : (bits .andNot .u8 (to 1 2) s == 0) = false := by simpa using hz
                  have HE : Hid (out (1 + 1) = out 1) := Lib.hid (by rw [HS.out, if_neg hz])
                  clear hz
                  go_wp2
                  go_roundw
                  case rel => exact ⟨1 + 1, by omega, rfl, congrArg (Value.int .u8) HE.out.symm, by trivial⟩
                  case measure => first | (simp [intOf]; done) | (simp [intOf]; omega)
      · rcases hg with ⟨rfl, rfl, rfl⟩ | ⟨rfl, rfl, rfl⟩ | ⟨rfl, rfl, rfl⟩
        · cases both
          · go_wp2
            go_loopw [11, 12, 17] (fun t _ i wr => ∃ j : Nat, j ≤ 2 ∧ i = .int .i64 j ∧ t = .int .u8 (to 2 j) ∧ wr = _) (fun _ _ i _ => 2 - (intOf i).toNat)
            case atStart => exact ⟨0, by omega, rfl, congrArg (Value.int .u8) (HTZ.out 2).symm, by trivial⟩
            case round =>
              obtain ⟨j, hj, rfl, rfl, rfl⟩ := hrel
              have hj2 : j = 0 ∨ j = 1 ∨ j = 2 := by omega
              clear hj
              rcases hj2 with rfl | rfl | rfl
              · go_wp2
                go_roundw
                case rel => exact ⟨1, by omega, rfl, congrArg (Value.int .u8) (HT.out 2 0).symm, by trivial⟩
                case measure => first | (simp [intOf]; done) | (simp [intOf]; omega)
              · go_wp2
                go_roundw
                case rel => exact ⟨2, by omega, rfl, congrArg (Value.int .u8) (HT.out 2 1).symm, by trivial⟩
                case measure => first | (simp [intOf]; done) | (simp [intOf]; omega)
              · by_cases hz : bits .andNot .u8 (to 2 2) s = 0
                · have hzb : (bits .andNot .u8 (to 2 2) s == 0) = true := by rw [hz]; rfl
                  have HE : Hid (out (2 + 1) = bits .or .u8 (out 2) (pw 2)) := Lib.hid (by rw [HS.out, if_pos hz])
                  clear hz
                  go_wp2
                  go_roundw
                  case rel => exact ⟨2 + 1, by omega, rfl, congrArg (Value.int .u8) HE.out.symm, by trivial⟩
                  case measure => first | (simp [intOf]; done) | (simp [intOf]; omega)
                · have hzb : (bits .andNot .u8 (to 2 2) s == 0) = false := by simpa using hz
                  have HE : Hid (out (2 + 1) = out 2) := Lib.hid (by rw [HS.out, if_neg hz])
                  clear hz
                  go_wp2
                  go_roundw
                  case rel => exact ⟨2 + 1, by omega, rfl, congrArg (Value.int .u8) HE.out.symm, by trivial⟩
                  case measure => first | (simp [intOf]; done) | (simp [intOf]; omega)
          · go_wp2
            go_loopw [11, 12, 17] (fun t _ i wr => ∃ j : Nat, j ≤ 2 ∧ i = .int .i64 j ∧ t = .int .u8 (to 2 j) ∧ wr = _) (fun _ _ i _ => 2 - (intOf i).toNat)
            case atStart => exact ⟨0, by omega, rfl, congrArg (Value.int .u8) (HTZ.out 2).symm, by trivial⟩
            case round =>
              obtain ⟨j, hj, rfl, rfl, rfl⟩ := hrel
              have hj2 : j = 0 ∨ j = 1 ∨ j = 2 := by omega
              clear hj
              rcases hj2 with rfl | rfl | rfl
              · go_wp2
                go_roundw
                case rel => exact ⟨1, by omega, rfl, congrArg (Value.int .u8) (HT.out 2 0).symm, by trivial⟩
                case measure => first | (simp [intOf]; done) | (simp [intOf]; omega)
              · go_wp2
                go_roundw
                case rel => exact ⟨2, by omega, rfl, congrArg (Value.int .u8) (HT.out 2 1).symm, by trivial⟩
                case measure => first | (simp [intOf]; done) | (simp [intOf]; omega)
              · by_cases hz : bits .andNot .u8 (to 2 2) s = 0
                · have hzb : (bits .andNot .u8 (to 2 2) s == 0) = true := by rw [hz]; rfl
                  have HE : Hid (out (2 + 1) = bits .or .u8 (out 2) (pw 2)) := Lib.hid (by rw [HS.out, if_pos hz])
                  clear hz
                  go_wp2
                  go_roundw
                  case rel => exact ⟨2 + 1, by omega, rfl, congrArg (Value.int .u8) HE.out.symm, by trivial⟩
                  case measure => first | (simp [intOf]; done) | (simp [intOf]; omega)
                · have hzb : (bits .andNot .u8 (to 2 2) s == 0) = false := by simpa using hz
                  have HE : Hid (out (2 + 1) = out 2) := Lib.hid (by rw [HS.out, if_neg hz])
                  clear hz
                  go_wp2
                  go_roundw
                  case rel => exact ⟨2 + 1, by omega, rfl, congrArg (Value.int .u8) HE.out.symm, by trivial⟩
                  case measure => first | (simp [intOf]; done) | (simp [intOf]; omega)
        · cases both
          · go_wp2
            go_loopw [11, 12, 17] (fun t _ i wr => ∃ j : Nat, j ≤ 2 ∧ i = .int .i64 j ∧ t = .int .u8 (to 2 j) ∧ wr = _) (fun _ _ i _ => 2 - (intOf i).toNat)
            case atStart => exact ⟨0, by omega, rfl, congrArg (Value.int .u8) (HTZ.out 2).symm, by trivial⟩
            case round =>
              obtain ⟨j, hj, rfl, rfl, rfl⟩ := hrel
              have hj2 : j = 0 ∨ j = 1 ∨ j = 2 := by omega
              clear hj
              rcases hj2 with rfl | rfl | rfl
              · go_wp2
                go_roundw
                case rel => exact ⟨1, by omega, rfl, congrArg (Value.int .u8) (HT.out 2 0).symm, by trivial⟩
                case measure => first | (simp [intOf]; done) | (simp [intOf]; omega)
              · go_wp2
                go_roundw
                case rel => exact ⟨2, by omega, rfl, congrArg (Value.int .u8) (HT.out 2 1).symm, by trivial⟩
                case measure => first | (simp [intOf]; done) | (simp [intOf]; omega)
              · by_cases hz : bits .andNot .u8 (to 2 2) s = 0
                · have hzb : (bits .andNot .u8 (to 2 2) s == 0) = true := by rw [hz]; rfl
                  have HE : Hid (out (2 + 1) = bits .or .u8 (out 2) (pw 2)) := Lib.hid (by rw [HS.out, if_pos hz])
                  clear hz
                  go_wp2
                  go_roundw
                  case rel => exact ⟨2 + 1, by omega, rfl, congrArg (Value.int .u8) HE.out.symm, by trivial⟩
                  case measure => first | (simp [intOf]; done) | (simp [intOf]; omega)
                · have hzb : (bits .andNot .u8 (to 2 2) s == 0) = false := by simpa using hz
                  have HE : Hid (out (2 + 1) = out 2) := Lib.hid (by rw [HS.out, if_neg hz])
                  clear hz
                  go_wp2
                  go_roundw
                  case rel => exact ⟨2 + 1, by omega, rfl, congrArg (Value.int .u8) HE.out.symm, by trivial⟩
                  case measure => first | (simp [intOf]; done) | (simp [intOf]; omega)
          · go_wp2
            go_loopw [11, 12, 17] (fun t _ i wr => ∃ j : Nat, j ≤ 2 ∧ i = .int .i64 j ∧ t = .int .u8 (to 2 j) ∧ wr = _) (fun _ _ i _ => 2 - (intOf i).toNat)
            case atStart => exact ⟨0, by omega, rfl, congrArg (Value.int .u8) (HTZ.out 2).symm, by trivial⟩
            case round =>
              obtain ⟨j, hj, rfl, rfl, rfl⟩ := hrel
              have hj2 : j = 0 ∨ j = 1 ∨ j = 2 := by omega
              clear hj
              rcases hj2 with rfl | rfl | rfl
              · go_wp2
                go_roundw
                case rel => exact ⟨1, by omega, rfl, congrArg (Value.int .u8) (HT.out 2 0).symm, by trivial⟩
                case measure => first | (simp [intOf]; done) | (simp [intOf]; omega)
              · go_wp2
                go_roundw
                case rel => exact ⟨2, by omega, rfl, congrArg (Value.int .u8) (HT.out 2 1).symm, by trivial⟩
                case measure => first | (simp [intOf]; done) | (simp [intOf]; omega)
              · by_cases hz : bits .andNot .u8 (to 2 2) s = 0
                · have hzb : (bits .andNot .u8 (to 2 2) s == 0) = true := by rw [hz]; rfl
                  have HE : Hid (out (2 + 1) = bits .or .u8 (out 2) (pw 2)) := Lib.hid (by rw [HS.out, if_pos hz])
                  clear hz
                  go_wp2
                  go_roundw
                  case rel => exact ⟨2 + 1, by omega, rfl, congrArg (Value.int .u8) HE.out.symm, by trivial⟩
                  case measure => first | (simp [intOf]; done) | (simp [intOf]; omega)
                · have hzb : (bits .andNot .u8 (to 2 2) s == 0) = false := by simpa using hz
                  have HE : Hid (out (2 + 1) = out 2) := Lib.hid (by rw [HS.out, if_neg hz])
                  clear hz
                  go_wp2
                  go_roundw
                  case rel => exact ⟨2 + 1, by omega, rfl, congrArg (Value.int .u8) HE.out.symm, by trivial⟩
                  case measure => first | (simp [intOf]; done) | (simp [intOf]; omega)
        · cases both
          · go_wp2
            go_loopw [11, 12, 17] (fun t _ i wr => ∃ j : Nat, j ≤ 2 ∧ i = .int .i64 j ∧ t = .int .u8 (to 2 j) ∧ wr = _) (fun _ _ i _ => 2 - (intOf i).toNat)
            case atStart => exact ⟨0, by omega, rfl, congrArg (Value.int .u8) (HTZ.out 2).symm, by trivial⟩
            case round =>
              obtain ⟨j, hj, rfl, rfl, rfl⟩ := hrel
              have hj2 : j = 0 ∨ j = 1 ∨ j = 2 := by omega
              clear hj
              rcases hj2 with rfl | rfl | rfl
              · go_wp2
                go_roundw
                case rel => exact ⟨1, by omega, rfl, congrArg (Value.int .u8) (HT.out 2 0).symm, by trivial⟩
                case measure => first | (simp [intOf]; done) | (simp [intOf]; omega)
              · go_wp2
                go_roundw
                case rel => exact ⟨2, by omega, rfl, congrArg (Value.int .u8) (HT.out 2 1).symm, by trivial⟩
                case measure => first | (simp [intOf]; done) | (simp [intOf]; omega)
              · by_cases hz : bits .andNot .u8 (to 2 2) s = 0
                · have hzb : (bits .andNot .u8 (to 2 2) s == 0) = true := by rw [hz]; rfl
                  have HE : Hid (out (2 + 1) = bits .or .u8 (out 2) (pw 2)) := Lib.hid (by rw [HS.out, if_pos hz])
                  clear hz
                  go_wp2
                  go_roundw
                  case rel => exact ⟨2 + 1, by omega, rfl, congrArg (Value.int .u8) HE.out.symm, by trivial⟩
                  case measure => first | (simp [intOf]; done) | (simp [intOf]; omega)
                · have hzb : (bits .andNot .u8 (to 2 2) s == 0) = false := by simpa using hz
                  have HE : Hid (out (2 + 1) = out 2) := Lib.hid (by rw [HS.out, if_neg hz])
                  clear hz
                  go_wp2
                  go_roundw
                  case rel => exact ⟨2 + 1, by omega, rfl, congrArg (Value.int .u8) HE.out.symm, by trivial⟩
                  case measure => first | (simp [intOf]; done) | (simp [intOf]; omega)
          · go_wp2
            go_loopw [11, 12, 17] (fun t _ i wr => ∃ j : Nat, j ≤ 2 ∧ i = .int .i64 j ∧ t = .int .u8 (to 2 j) ∧ wr = _) (fun _ _ i _ => 2 - (intOf i).toNat)
            case atStart => exact ⟨0, by omega, rfl, congrArg (Value.int .u8) (HTZ.out 2).symm, by trivial⟩
            case round =>
              obtain ⟨j, hj, rfl, rfl, rfl⟩ := hrel
              have hj2 : j = 0 ∨ j = 1 ∨ j = 2 := by omega
              clear hj
              rcases hj2 with rfl | rfl | rfl
              · go_wp2
                go_roundw
                case rel => exact ⟨1, by omega, rfl, congrArg (Value.int .u8) (HT.out 2 0).symm, by trivial⟩
                case measure => first | (simp [intOf]; done) | (simp [intOf]; omega)
              · go_wp2
                go_roundw
                case rel => exact ⟨2, by omega, rfl, congrArg (Value.int .u8) (HT.out 2 1).symm, by trivial⟩
                case measure => first | (simp [intOf]; done) | (simp [intOf]; omega)
              · by_cases hz : bits .andNot .u8 (to 2 2) s = 0
                · have hzb : (bits .andNot .u8 (to 2 2) s == 0) = true := by rw [hz]; rfl
                  have HE : Hid (out (2 + 1) = bits .or .u8 (out 2) (pw 2)) := Lib.hid (by rw [HS.out, if_pos hz])
                  clear hz
                  go_wp2
                  go_roundw
                  case rel => exact ⟨2 + 1, by omega, rfl, congrArg (Value.int .u8) HE.out.symm, by trivial⟩
                  case measure => first | (simp [intOf]; done) | (simp [intOf]; omega)
                · have hzb : (bits .andNot .u8 (to 2 2) s == 0) = false := by simpa using hz
                  have HE : Hid (out (2 + 1) = out 2) := Lib.hid (by rw [HS.out, if_neg hz])
                  clear hz
                  go_wp2
                  go_roundw
                  case rel => exact ⟨2 + 1, by omega, rfl, congrArg (Value.int .u8) HE.out.symm, by trivial⟩
                  case measure => first | (simp [intOf]; done) | (simp [intOf]; omega)
      · rcases hg with ⟨rfl, rfl, rfl⟩ | ⟨rfl, rfl, rfl⟩ | ⟨rfl, rfl, rfl⟩
        · cases both
          · go_wp2
            go_loopw [11, 12, 17] (fun t _ i wr => ∃ j : Nat, j ≤ 2 ∧ i = .int .i64 j ∧ t = .int .u8 (to 3 j) ∧ wr = _) (fun _ _ i _ => 2 - (intOf i).toNat)
            case atStart => exact ⟨0, by omega, rfl, congrArg (Value.int .u8) (HTZ.out 3).symm, by trivial⟩
            case round =>
              obtain ⟨j, hj, rfl, rfl, rfl⟩ := hrel
              have hj2 : j = 0 ∨ j = 1 ∨ j = 2 := by omega
              clear hj
              rcases hj2 with rfl | rfl | rfl
              · go_wp2
                go_roundw
                case rel => exact ⟨1, by omega, rfl, congrArg (Value.int .u8) (HT.out 3 0).symm, by trivial⟩
                case measure => first | (simp [intOf]; done) | (simp [intOf]; omega)
              · go_wp2
                go_roundw
                case rel => exact ⟨2, by omega, rfl, congrArg (Value.int .u8) (HT.out 3 1).symm, by trivial⟩
                case measure => first | (simp [intOf]; done) | (simp [intOf]; omega)
              · by_cases hz : bits .andNot .u8 (to 3 2) s = 0
                · have hzb : (bits .andNot .u8 (to 3 2) s == 0) = true := by rw [hz]; rfl
                  have HE : Hid (out (3 + 1) = bits .or .u8 (out 3) (pw 3)) := Lib.hid (by rw [HS.out, if_pos hz])
                  clear hz
                  go_wp2
                  go_roundw
                  case rel => exact ⟨3 + 1, by omega, rfl, congrArg (Value.int .u8) HE.out.symm, by trivial⟩
                  case measure => first | (simp [intOf]; done) | (simp [intOf]; omega)
                · have hzb : (bits .andNot .u8 (to 3 2) s == 0) = false := by simpa using hz
                  have HE : Hid (out (3 + 1) = out 3) := Lib.hid (by rw [HS.out, if_neg hz])
                  clear hz
                  go_wp2
                  go_roundw
                  case rel => exact ⟨3 + 1, by omega, rfl, congrArg (Value.int .u8) HE.out.symm, by trivial⟩
                  case measure => first | (simp [intOf]; done) | (simp [intOf]; omega)
          · go_wp2
            go_loopw [11, 12, 17] (fun t _ i wr => ∃ j : Nat, j ≤ 2 ∧ i = .int .i64 j ∧ t = .int .u8 (to 3 j) ∧ wr = _) (fun _ _ i _ => 2 - (intOf i).toNat)
            case atStart => exact ⟨0, by omega, rfl, congrArg (Value.int .u8) (HTZ.out 3).symm, by trivial⟩
            case round =>
              obtain ⟨j, hj, rfl, rfl, rfl⟩ := hrel
              have hj2 : j = 0 ∨ j = 1 ∨ j = 2 := by omega
              clear hj
              rcases hj2 with rfl | rfl | rfl
              · go_wp2
                go_roundw
                case rel => exact ⟨1, by omega, rfl, congrArg (Value.int .u8) (HT.out 3 0).symm, by trivial⟩
                case measure => first | (simp [intOf]; done) | (simp [intOf]; omega)
              · go_wp2
                go_roundw
                case rel => exact ⟨2, by omega, rfl, congrArg (Value.int .u8) (HT.out 3 1).symm, by trivial⟩
                case measure => first | (simp [intOf]; done) | (simp [intOf]; omega)
              · by_cases hz : bits .andNot .u8 (to 3 2) s = 0
                · have hzb : (bits .andNot .u8 (to 3 2) s == 0) = true := by rw [hz]; rfl
                  have HE : Hid (out (3 + 1) = bits .or .u8 (out 3) (pw 3)) := Lib.hid (by rw [HS.out, if_pos hz])
                  clear hz
                  go_wp2
                  go_roundw
                  case rel => exact ⟨3 + 1, by omega, rfl, congrArg (Value.int .u8) HE.out.symm, by trivial⟩
                  case measure => first | (simp [intOf]; done) | (simp [intOf]; omega)
                · have hzb : (bits .andNot .u8 (to 3 2) s == 0) = false := by simpa using hz
                  have HE : Hid (out (3 + 1) = out 3) := Lib.hid (by rw [HS.out, if_neg hz])
                  clear hz
                  go_wp2
                  go_roundw
                  case rel => exact ⟨3 + 1, by omega, rfl, congrArg (Value.int .u8) HE.out.symm, by trivial⟩
                  case measure => first | (simp [intOf]; done) | (simp [intOf]; omega)
        · cases both
          · go_wp2
            go_loopw [11, 12, 17] (fun t _ i wr => ∃ j : Nat, j ≤ 2 ∧ i = .int .i64 j ∧ t = .int .u8 (to 3 j) ∧ wr = _) (fun _ _ i _ => 2 - (intOf i).toNat)
            case atStart => exact ⟨0, by omega, rfl, congrArg (Value.int .u8) (HTZ.out 3).symm, by trivial⟩
            case round =>
              obtain ⟨j, hj, rfl, rfl, rfl⟩ := hrel
              have hj2 : j = 0 ∨ j = 1 ∨ j = 2 := by omega
              clear hj
              rcases hj2 with rfl | rfl | rfl
              · go_wp2
                go_roundw
                case rel => exact ⟨1, by omega, rfl, congrArg (Value.int .u8) (HT.out 3 0).symm, by trivial⟩
                case measure => first | (simp [intOf]; done) | (simp [intOf]; omega)
              · go_wp2
                go_roundw
                case rel => exact ⟨2, by omega, rfl, congrArg (Value.int .u8) (HT.out 3 1).symm, by trivial⟩
                case measure => first | (simp [intOf]; done) | (simp [intOf]; omega)
              · by_cases hz : bits .andNot .u8 (to 3 2) s = 0
                · have hzb : (bits .andNot .u8 (to 3 2) s == 0) = true := by rw [hz]; rfl
                  have HE : Hid (out (3 + 1) = bits .or .u8 (out 3) (pw 3)) := Lib.hid (by rw [HS.out, if_pos hz])
                  clear hz
                  go_wp2
                  go_roundw
                  case rel => exact ⟨3 + 1, by omega, rfl, congrArg (Value.int .u8) HE.out.symm, by trivial⟩
                  case measure => first | (simp [intOf]; done) | (simp [intOf]; omega)
                · have hzb : (bits .andNot .u8 (to 3 2) s == 0) = false := by simpa using hz
                  have HE : Hid (out (3 + 1) = out 3) := Lib.hid (by rw [HS.out, if_neg hz])
                  clear hz
                  go_wp2
                  go_roundw
                  case rel => exact ⟨3 + 1, by omega, rfl, congrArg (Value.int .u8) HE.out.symm, by trivial⟩
                  case measure => first | (simp [intOf]; done) | (simp [intOf]; omega)
          · go_wp2
            go_loopw [11, 12, 17] (fun t _ i wr => ∃ j : Nat, j ≤ 2 ∧ i = .int .i64 j ∧ t = .int .u8 (to 3 j) ∧ wr = _) (fun _ _ i _ => 2 - (intOf i).toNat)
            case atStart => exact ⟨0, by omega, rfl, congrArg (Value.int .u8) (HTZ.out 3).symm, by trivial⟩
            case round =>
              obtain ⟨j, hj, rfl, rfl, rfl⟩ := hrel
              have hj2 : j = 0 ∨ j = 1 ∨ j = 2 := by omega
              clear hj
              rcases hj2 with rfl | rfl | rfl
              · go_wp2
                go_roundw
                case rel => exact ⟨1, by omega, rfl, congrArg (Value.int .u8) (HT.out 3 0).symm, by trivial⟩
                case measure => first | (simp [intOf]; done) | (simp [intOf]; omega)
              · go_wp2
                go_roundw
                case rel => exact ⟨2, by omega, rfl, congrArg (Value.int .u8) (HT.out 3 1).symm, by trivial⟩
                case measure => first | (simp [intOf]; done) | (simp [intOf]; omega)
              · by_cases hz : bits .andNot .u8 (to 3 2) s = 0
                · have hzb : (bits .andNot .u8 (to 3 2) s == 0) = true := by rw [hz]; rfl
                  have HE : Hid (out (3 + 1) = bits .or .u8 (out 3) (pw 3)) := Lib.hid (by rw [HS.out, if_pos hz])
                  clear hz
                  go_wp2
                  go_roundw
                  case rel => exact ⟨3 + 1, by omega, rfl, congrArg (Value.int .u8) HE.out.symm, by trivial⟩
                  case measure => first | (simp [intOf]; done) | (simp [intOf]; omega)
                · have hzb : (bits .andNot .u8 (to 3 2) s == 0) = false := by simpa using hz
                  have HE : Hid (out (3 + 1) = out 3) := Lib.hid (by rw [HS.out, if_neg hz])
                  clear hz
                  go_wp2
                  go_roundw
                  case rel => exact ⟨3 + 1, by omega, rfl, congrArg (Value.int .u8) HE.out.symm, by trivial⟩
                  case measure => first | (simp [intOf]; done) | (simp [intOf]; omega)
        · cases both
          · go_wp2
            go_loopw [11, 12, 17] (fun t _ i wr => ∃ j : Nat, j ≤ 2 ∧ i = .int .i64 j ∧ t = .int .u8 (to 3 j) ∧ wr = _) (fun _ _ i _ => 2 - (intOf i).toNat)
            case atStart => exact ⟨0, by omega, rfl, congrArg (Value.int .u8) (HTZ.out 3).symm, by trivial⟩
            case round =>
              obtain ⟨j, hj, rfl, rfl, rfl⟩ := hrel
              have hj2 : j = 0 ∨ j = 1 ∨ j = 2 := by omega
              clear hj
              rcases hj2 with rfl | rfl | rfl
              · go_wp2
                go_roundw
                case rel => exact ⟨1, by omega, rfl, congrArg (Value.int .u8) (HT.out 3 0).symm, by trivial⟩
                case measure => first | (simp [intOf]; done) | (simp [intOf]; omega)
              · go_wp2
                go_roundw
                case rel => exact ⟨2, by omega, rfl, congrArg (Value.int .u8) (HT.out 3 1).symm, by trivial⟩
                case measure => first | (simp [intOf]; done) | (simp [intOf]; omega)
              · by_cases hz : bits .andNot .u8 (to 3 2) s = 0
                · have hzb : (bits .andNot .u8 (to 3 2) s == 0) = true := by rw [hz]; rfl
                  have HE : Hid (out (3 + 1) = bits .or .u8 (out 3) (pw 3)) := Lib.hid (by rw [HS.out, if_pos hz])
                  clear hz
                  go_wp2
                  go_roundw
                  case rel => exact ⟨3 + 1, by omega, rfl, congrArg (Value.int .u8) HE.out.symm, by trivial⟩
                  case measure => first | (simp [intOf]; done) | (simp [intOf]; omega)
                · have hzb : (bits .andNot .u8 (to 3 2) s == 0) = false := by simpa using hz
                  have HE : Hid (out (3 + 1) = out 3) := Lib.hid (by rw [HS.out, if_neg hz])
                  clear hz
                  go_wp2
                  go_roundw
                  case rel => exact ⟨3 + 1, by omega, rfl, congrArg (Value.int .u8) HE.out.symm, by trivial⟩
                  case measure => first | (simp [intOf]; done) | (simp [intOf]; omega)
          · go_wp2
            go_loopw [11, 12, 17] (fun t _ i wr => ∃ j : Nat, j ≤ 2 ∧ i = .int .i64 j ∧ t = .int .u8 (to 3 j) ∧ wr = _) (fun _ _ i _ => 2 - (intOf i).toNat)
            case atStart => exact ⟨0, by omega, rfl, congrArg (Value.int .u8) (HTZ.out 3).symm, by trivial⟩
            case round =>
              obtain ⟨j, hj, rfl, rfl, rfl⟩ := hrel
              have hj2 : j = 0 ∨ j = 1 ∨ j = 2 := by omega
              clear hj
              rcases hj2 with rfl | rfl | rfl
              · go_wp2
                go_roundw
                case rel => exact ⟨1, by omega, rfl, congrArg (Value.int .u8) (HT.out 3 0).symm, by trivial⟩
                case measure => first | (simp [intOf]; done) | (simp [intOf]; omega)
              · go_wp2
                go_roundw
                case rel => exact ⟨2, by omega, rfl, congrArg (Value.int .u8) (HT.out 3 1).symm, by trivial⟩
                case measure => first | (simp [intOf]; done) | (simp [intOf]; omega)
              · by_cases hz : bits .andNot .u8 (to 3 2) s = 0
                · have hzb : (bits .andNot .u8 (to 3 2) s == 0) = true := by rw [hz]; rfl
                  have HE : Hid (out (3 + 1) = bits .or .u8 (out 3) (pw 3)) := Lib.hid (by rw [HS.out, if_pos hz])
                  clear hz
                  go_wp2
                  go_roundw
                  case rel => exact ⟨3 + 1, by omega, rfl, congrArg (Value.int .u8) HE.out.symm, by trivial⟩
                  case measure => first | (simp [intOf]; done) | (simp [intOf]; omega)
                · have hzb : (bits .andNot .u8 (to 3 2) s == 0) = false := by simpa using hz
                  have HE : Hid (out (3 + 1) = out 3) := Lib.hid (by rw [HS.out, if_neg hz])
                  clear hz
                  go_wp2
                  go_roundw
                  case rel => exact ⟨3 + 1, by omega, rfl, congrArg (Value.int .u8) HE.out.symm, by trivial⟩
                  case measure => first | (simp [intOf]; done) | (simp [intOf]; omega)
end Go.Proofs.YtkkkomkljpolbaaDoor
/- Layer 8: the worlds at the end of paths. -/
namespace Go.Proofs.YtkkkomkljpolbaaDoor
open Go.RowKit Go.Proofs.Ws Go.Maps
set_option maxRecDepth 100000
def comI (b0 b1 : Bool) (T : Nat → Nat → Int) (x y : Int) : Nat → Int
  | 0 => 15
  | i + 1 => outI false b0 b1 T (bits .or .u8 (bits .and .u8 (bits .xor .u8 IntKind.u8.max x) 15) (bits .and .u8 y (comI b0 b1 T x y i))) 4
theorem common_any (F : Nat → Int) (T : Nat → Nat → Int) (g : Int) (b0 b1 : Bool) (x y : Int) (hg : (g = 1 ∧ b0 = true ∧ b1 = false) ∨ (g = 2 ∧ b0 = false ∧ b1 = true) ∨ (g = 3 ∧ b0 = true ∧ b1 = true)) (w : World) :
    Calls Tryd.prog 77 #[mV F T, .int .i64 g, .int .u8 x, .int .u8 y] w fun e w' => e = .returned (.int .u8 (comI b0 b1 T x y 5)) ∧ Below w.heap.size w w' := by
  have HA := Lib.hid (fun (s : Int) (W : World) => after_any F T g b0 b1 false s hg W)
  have HS : Hid (∀ i, comI b0 b1 T x y (i + 1) = outI false b0 b1 T (bits .or .u8 (bits .and .u8 (bits .xor .u8 IntKind.u8.max x) 15) (bits .and .u8 y (comI b0 b1 T x y i))) 4) := Lib.hid (fun i => rfl)
  have HZ : Hid (comI b0 b1 T x y 0 = 15) := Lib.hid rfl
  have HB0 : Hid (Below w.heap.size w (w.alloc (.cells #[.int .u8 (F 0), .int .u8 (T 0 0), .int .u8 (T 0 1), .int .u8 (F 1), .int .u8 (T 1 0), .int .u8 (T 1 1), .int .u8 (F 2), .int .u8 (T 2 0), .int .u8 (T 2 1), .int .u8 (F 3), .int .u8 (T 3 0), .int .u8 (T 3 1)] 36))) := Lib.hid ((Below.refl _ w).alloc (Nat.le_refl _) _)
  have HC0 : Hid ((w.alloc (.cells #[.int .u8 (F 0), .int .u8 (T 0 0), .int .u8 (T 0 1), .int .u8 (F 1), .int .u8 (T 1 0), .int .u8 (T 1 1), .int .u8 (F 2), .int .u8 (T 2 0), .int .u8 (T 2 1), .int .u8 (F 3), .int .u8 (T 3 0), .int .u8 (T 3 1)] 36)).heap[w.heap.size]? = some (.cells #[.int .u8 (F 0), .int .u8 (T 0 0), .int .u8 (T 0 1), .int .u8 (F 1), .int .u8 (T 1 0), .int .u8 (T 1 1), .int .u8 (F 2), .int .u8 (T 2 0), .int .u8 (T 2 1), .int .u8 (F 3), .int .u8 (T 3 0), .int .u8 (T 3 1)] 36)) := Lib.hid (heap_alloc_new w _)
  have hs0 : w.heap.size < (w.alloc (.cells #[.int .u8 (F 0), .int .u8 (T 0 0), .int .u8 (T 0 1), .int .u8 (F 1), .int .u8 (T 1 0), .int .u8 (T 1 1), .int .u8 (F 2), .int .u8 (T 2 0), .int .u8 (T 2 1), .int .u8 (F 3), .int .u8 (T 3 0), .int .u8 (T 3 1)] 36)).heap.size := by simp
  unfold mV at *
  generalize comI b0 b1 T x y = co at *
  clear hg
  go_enter Tryd.func77, Tryd.ntmps77
  go_wp2
  generalize w.alloc (.cells #[.int .u8 (F 0), .int .u8 (T 0 0), .int .u8 (T 0 1), .int .u8 (F 1), .int .u8 (T 1 0), .int .u8 (T 1 1), .int .u8 (F 2), .int .u8 (T 2 0), .int .u8 (T 2 1), .int .u8 (F 3), .int .u8 (T 3 0), .int .u8 (T 3 1)] 36) = w0 at *
  have HS0 := Lib.hid hs0
  clear hs0
  go_loopw [9, 10] (fun o i wr => ∃ k : Nat, k ≤ 5 ∧ i = .int .i64 k ∧ o = .int .u8 (co k) ∧ Hid (Below w0.heap.size w0 wr)) (fun _ i _ => 5 - (intOf i).toNat)
  case atStart => exact ⟨0, by omega, rfl, by rw [HZ.out], Lib.hid (Below.refl _ _)⟩
  case round =>
    obtain ⟨k, hk, rfl, rfl, HB⟩ := hrel
    by_cases h5 : k < 5
    · have hcell := Lib.cell_of_heap ((HB.out.block _ HS0.out).trans HC0.out)
      have c0 := hcell 0
      have c1 := hcell 1
      have c2 := hcell 2
      have c3 := hcell 3
      have c4 := hcell 4
      have c5 := hcell 5
      have c6 := hcell 6
      have c7 := hcell 7
      have c8 := hcell 8
      have c9 := hcell 9
      have c10 := hcell 10
      have c11 := hcell 11
      clear hcell
      simp at c0 c1 c2 c3 c4 c5 c6 c7 c8 c9 c10 c11
      go_wp2_with fail
      refine (HA.out _ _).mono ?_
      rintro r w3 ⟨rfl, hb⟩
      have HB3 := Lib.hid (HB.out.trans (hb.mono HB.out.size))
      clear hb c0 c1 c2 c3 c4 c5 c6 c7 c8 c9 c10 c11
      go_wp2
      go_roundw
      case rel => exact ⟨k + 1, by omega, by go_num, by rw [HS.out], HB3⟩
      case measure => first | (simp [intOf]; done) | (simp [intOf]; omega)
    · have : k = 5 := by omega
      subst this
      go_wp2
      go_ret
      exact ⟨rfl, HB0.out.trans (HB.out.mono (Nat.le_of_lt HS0.out))⟩
end Go.Proofs.YtkkkomkljpolbaaDoor
/- Layer 8: the law's truth of a formula in a small model: definitions. -/
namespace Go.Proofs.YtkkkomkljpolbaaDoor
open Go.RowKit Go.Proofs.Ws Go.Maps
set_option maxRecDepth 100000
theorem Tryd.infoU8 : (Tryd.prog.info? 5).map (fun i => (i.zero, i.size, i.bytes)) = some (some (.int .u8 0), 1, 1) := by kernel_rfl
def b0G (g : Int) : Bool := decide (g = 1) || decide (g = 3)
def b1G (g : Int) : Bool := decide (g = 2) || decide (g = 3)
/-- the worlds that know a set, for a group -/
def afG (T : Nat → Nat → Int) (g : Int) (both : Bool) (s : Int) : Int := outI both (b0G g) (b1G g) T s 4
def coG (T : Nat → Nat → Int) (g x y : Int) : Int := comI (b0G g) (b1G g) T x y 5
def gI (i : Int) : Int := if i = 0 then 1 else 2
/-- the bit of a fact in a byte -/
def sh8 (z : Int) (i : Nat) : Int := if i = 0 then z else if i = 1 then z / 2 else if i = 2 then z / 4 else if i = 3 then z / 8 else if i = 4 then z / 16 else if i = 5 then z / 32 else if i = 6 then z / 64 else z / 128
def shl8 (z : Int) (k : Nat) : Int := if k = 0 then z % 256 else if k = 1 then z * 2 % 256 else if k = 2 then z * 4 % 256 else z * 8 % 256
def faI (F : Nat → Int) (i : Nat) : Nat → Int
  | 0 => 0
  | k + 1 => bits .or .u8 (faI F i k) (shl8 (bits .and .u8 (sh8 (F k) i) 1) k)
def trN (F : Nat → Int) (T : Nat → Nat → Int) (n : Nd) (x y : Int) : Int :=
  if n.op = 1 then 15 else if n.op = 2 then 0 else if n.op = 3 then faI F n.i.toNat 4 else if n.op = 4 then bits .andNot .u8 15 x
  else if n.op = 5 then bits .and .u8 x y else if n.op = 6 then bits .or .u8 x y else if n.op = 7 then bits .or .u8 (bits .andNot .u8 15 x) y else if n.op = 8 then bits .andNot .u8 15 (bits .xor .u8 x y)
  else if n.op = 9 then afG T (gI n.i) false x else if n.op = 10 then bits .andNot .u8 15 (afG T (gI n.i) false (bits .andNot .u8 15 x)) else if n.op = 11 then afG T n.g false x else if n.op = 12 then afG T n.g true x
  else coG T n.g x y
def trL (F : Nat → Int) (T : Nat → Nat → Int) (q : List Nd) : Nat → List Int
  | 0 => []
  | i + 1 => trL F T q i ++ [trN F T (q.getD i nd0) (if usesX (q.getD i nd0).op = true then (trL F T q i).getD (q.getD i nd0).x.toNat 0 else 0) (if usesY (q.getD i nd0).op = true then (trL F T q i).getD (q.getD i nd0).y.toNat 0 else 0)]
theorem trL_len (F : Nat → Int) (T : Nat → Nat → Int) (q : List Nd) : ∀ i, (trL F T q i).length = i
  | 0 => rfl
  | i + 1 => by show (trL F T q i ++ [_]).length = _; rw [List.length_append, trL_len F T q i]; rfl
def u8s (l : List Int) : List Value := l.map (fun z => .int .u8 z)
theorem Reads.u8_at {w : World} {B n : Nat} {A : Option Addr} {l : List Int} (h : Reads w B 1 A n (u8s l)) {k : Nat} (hk : k < n) : ∃ ad, A = some ad ∧ ad.block < B ∧ w.cell? (ad.add k) = some (.int .u8 (l.getD k 0)) := by
  obtain ⟨ad, u, h1, h2, h3, h4⟩ := h.at_ hk
  have hu : u = .int .u8 (l.getD k 0) := by
    unfold u8s at h3
    rw [List.getElem?_map] at h3
    cases e : l[k]? with
    | none => rw [e] at h3; cases h3
    | some z =>
      rw [e] at h3
      rw [List.getD_eq_getElem?_getD, e]
      exact (Option.some.inj h3).symm
  subst hu
  exact ⟨ad, h1, h2, h4⟩
/-- what the law asks of a node: static, two agents -/
def stF (n : Nd) : Prop := 1 ≤ n.op ∧ n.op ≤ 13 ∧ (n.op = 3 → 0 ≤ n.i ∧ n.i < 8) ∧ ((n.op = 9 ∨ n.op = 10) → n.i = 0 ∨ n.i = 1) ∧ (11 ≤ n.op → n.g = 1 ∨ n.g = 2 ∨ n.g = 3)
theorem own_slU {w : World} {base : Nat} {e : TypeId} {v : Value} {n : Nat} {xs : List Value} (h : w.ownsRow base e 1 v n xs) : ∃ A c, v = .slice A n c := own_sl h
theorem gbits {g : Int} (h : g = 1 ∨ g = 2 ∨ g = 3) : (g = 1 ∧ b0G g = true ∧ b1G g = false) ∨ (g = 2 ∧ b0G g = false ∧ b1G g = true) ∨ (g = 3 ∧ b0G g = true ∧ b1G g = true) := by
  rcases h with rfl | rfl | rfl
  · exact .inl ⟨rfl, by decide, by decide⟩
  · exact .inr (.inl ⟨rfl, by decide, by decide⟩)
  · exact .inr (.inr ⟨rfl, by decide, by decide⟩)
end Go.Proofs.YtkkkomkljpolbaaDoor
