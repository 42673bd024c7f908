/- Layer 4: short lists of names. -/
import Derived.Test.YtichhbnpdhfimaaDoorSu
import Derived.Test.YtichhbnpdhfimaaDoorSn
namespace Go.Proofs.YtichhbnpdhfimaaDoor
open Go.RowKit Go.Proofs.Ws
def shortB (l : List ByteArray) (n : Nat) : Bool := l.all (fun x => decide (x.size ≤ 100)) && decide (n ≤ 20)
set_option maxRecDepth 100000 in
theorem pShort_any (l : List ByteArray) (A : Option Addr) (n c B : Nat) (w : World) (hR : Reads w B 1 A n (ss l)) (hm : n ≤ maxLen) :
    Calls Tryd.prog 42 #[.slice A n c] w fun e w' => e = .returned (.bool (shortB l n)) ∧ w = w' := by
  unfold maxLen at hm
  have hl := hR.str_len
  have HBAD := Lib.hid (fun k (hk : k < n) (hs : 100 < (l.getD k ByteArray.empty).size) => (by
    unfold shortB
    have hkl : k < l.length := by omega
    rw [List.all_eq_false.2 ⟨l.getD k ByteArray.empty, by rw [List.getD_eq_getElem?_getD, List.getElem?_eq_getElem hkl]; exact List.getElem_mem hkl, by simpa using hs⟩]
    rfl : shortB l n = false))
  have HALL := Lib.hid (fun (h : ∀ k, k < n → (l.getD k ByteArray.empty).size ≤ 100) => (by
    unfold shortB
    rw [List.all_eq_true.2 (fun x hx => by
      obtain ⟨k, hk, rfl⟩ := List.mem_iff_getElem.1 hx
      have := h k (by omega)
      rw [List.getD_eq_getElem?_getD, List.getElem?_eq_getElem hk] at this
      simpa using this)]
    rfl : shortB l n = decide (n ≤ 20)))
  clear hl
  go_enter Tryd.func42, Tryd.ntmps42
  go_wp2
  go_loopw [7] (fun i wr => ∃ k : Nat, k ≤ n ∧ i = .int .i64 k ∧ Hid (∀ j, j < k → (l.getD j ByteArray.empty).size ≤ 100) ∧ wr = w) (fun i _ => n - (intOf i).toNat)
  case atStart => exact ⟨0, Nat.zero_le _, rfl, Lib.hid (fun i hi => absurd hi (by omega)), rfl⟩
  case round =>
    obtain ⟨k, hk, rfl, HI, rfl⟩ := hrel
    by_cases hlt : k < n
    · obtain ⟨ad, rfl, hb, hc⟩ := hR.str_at hlt
      by_cases he : 100 < (l.getD k ByteArray.empty).size
      · have HB := Lib.hid (HBAD.out k hlt he)
        generalize l.getD k ByteArray.empty = z at *
        have hd : decide ((100 : Int) < (z.size : Int)) = true := by simp; omega
        clear he
        go_wp2
        go_ret
        exact ⟨ret_bool HB.out.symm, rfl⟩
      · have HN : Hid (∀ j, j < k + 1 → (l.getD j ByteArray.empty).size ≤ 100) := Lib.hid (fun j hj => by
          by_cases e : j = k
          · subst e; omega
          · exact HI.out j (by omega))
        generalize l.getD k ByteArray.empty = z at *
        have hd : decide ((100 : Int) < (z.size : Int)) = false := by simp; omega
        clear he HI
        go_wp2
        go_roundw
        case rel => exact ⟨k + 1, by omega, by go_num, HN, by first | rfl | trivial⟩
        case measure => simp [intOf]; omega
    · have hkn : n = k := by omega
      subst hkn
      have HB := Lib.hid (HALL.out HI.out)
      have hdd : decide ((n : Int) ≤ 20) = decide (n ≤ 20) := by congr 1; apply propext; omega
      clear HI
      go_wp2
      go_ret
      exact ⟨ret_bool (by first | (rw [HB.out]; done) | (rw [HB.out]; exact hdd)), rfl⟩
/-- the i-th bit as a number -/
theorem bitv_i64 : ∀ m : Fin 16, ∀ j : Fin 4, bits BinOp.and IntKind.i64 ((m.1 : Int) / 2 ^ j.1) 1 = (((if m.1.testBit j.1 then 1 else 0) : Nat) : Int) := by decide +kernel
theorem pop_le (m : Nat) : ∀ k, popK m k ≤ k
  | 0 => by simp [popK]
  | k + 1 => by
    rw [popK_succ]
    have := pop_le m k
    split <;> omega
end Go.Proofs.YtichhbnpdhfimaaDoor
