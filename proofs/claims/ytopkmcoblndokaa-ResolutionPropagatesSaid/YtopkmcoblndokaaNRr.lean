/- Layer 10: the law's own satisfied. -/
import Derived.Test.YtopkmcoblndokaaNRq
namespace Go.Proofs.Ytopkmcoblndokaa
open Go.RowKit Go.Proofs.Ws
set_option maxRecDepth 100000
theorem bit_i640 (t v : Nat) (ht : t < 4611686018427387904) : (bits .and .i64 ((t : Int) / 2 ^ v) 1 == 0) = !t.testBit v := by
  have e : (t : Int) / 2 ^ v = ((t / 2 ^ v : Nat) : Int) := by push_cast; rfl
  rw [e, i64_and_one _ (Nat.lt_of_le_of_lt (Nat.div_le_self _ _) ht), Nat.and_one_is_mod, Nat.testBit_eq_decide_div_mod_eq]
  have hm : t / 2 ^ v % 2 < 2 := Nat.mod_lt _ (by decide)
  generalize t / 2 ^ v % 2 = z at *
  have : z = 0 ∨ z = 1 := by omega
  rcases this with rfl | rfl <;> rfl
theorem litT_pos (V m : Nat) : litT V ((m : Int) + 1) = V.testBit m := by
  unfold litT
  rw [lit_pos, decide_eq_true (by omega)]; simp
theorem litT_mns (V m : Nat) : litT V (-((m : Int) + 1)) = !V.testBit m := by
  rw [litT_neg (by omega), litT_pos]
set_option maxHeartbeats 4000000 in
theorem xSfd_any (V : Nat) (c : List Int) (A : Option Addr) (k cap B : Nat) (w : World) (hV : V < 4096) (hcl : ∀ x ∈ c, x ≠ 0 ∧ -12 ≤ x ∧ x ≤ 12) (hR : Reads w B 1 A k (ints c)) (hk : k ≤ maxLen) :
    Calls Try.prog 31 #[.slice A k cap, .int .i64 (V : Int)] w fun e w' => e = .returned (.bool (c.any (litT V))) ∧ Below w.heap.size w w' := by
  unfold maxLen at hk
  have HL := Lib.hid hR.int_len
  have HR := Lib.hid hR
  have HC := Lib.hid hcl
  have HS := Lib.hid (fun m : Nat => (⟨bit_i64 V m (by omega), bit_i640 V m (by omega)⟩ : _ ∧ _))
  clear hcl hR
  go_enter Try.func31, Try.ntmps31
  go_wp2
  go_loopw [9, 46] (fun i _ wr => ∃ j : Nat, j ≤ k ∧ i = .int .i64 j ∧ Hid (c.any (litT V) = (c.drop j).any (litT V)) ∧ Hid (Below w.heap.size w wr ∧ Reads wr B 1 A k (ints c))) (fun i _ _ => k - (intOf i).toNat)
  case atStart => exact ⟨0, Nat.zero_le _, rfl, Lib.hid rfl, Lib.hid ⟨Below.refl _ _, HR.out⟩⟩
  case round =>
    obtain ⟨j, hj, rfl, HI, HO⟩ := hrel
    by_cases hlt : j < k
    · obtain ⟨ad, rfl, _, hcj⟩ := HO.out.2.int_at hlt
      have HD := Lib.hid (drop_getD c j (by have := HL.out; omega))
      have hx := HC.out (c.getD j 0) (getD_mem0 (by have := HL.out; omega))
      generalize c.getD j 0 = x at *
      by_cases hpos : 0 < x
      · obtain ⟨m, rfl⟩ : ∃ m : Nat, x = (m : Int) + 1 := ⟨(x - 1).toNat, by omega⟩
        have hm : m ≤ 11 := by omega
        have hs := (HS.out m).1
        have hs0 := (HS.out m).2
        have p1 : decide ((0 : Int) < (m : Int) + 1) = true := decide_eq_true (by omega)
        have p2 : decide ((m : Int) + 1 ≤ 20) = true := decide_eq_true (by omega)
        have p3 : decide ((m : Int) + 1 < 0) = false := decide_eq_false (by omega)
        have HT := Lib.hid (litT_pos V m)
        have p4 : IntKind.i64.wrap ((m : Int) + 1 - 1) = (m : Int) := by simp [IntKind.wrap, IntKind.bits, IntKind.signed]; omega
        clear hx hpos
        cases hq : V.testBit m with
        | true =>
          rw [hq] at hs hs0
          have HE : Hid (c.any (litT V) = true) := Lib.hid (by rw [HI.out, HD.out, List.any_cons, HT.out, hq]; rfl)
          clear hq HT HD HI
          go_wp2
          go_ret
          exact ⟨ret_bool HE.out.symm, HO.out.1⟩
        | false =>
          rw [hq] at hs hs0
          have HI2 : Hid (c.any (litT V) = (c.drop (j + 1)).any (litT V)) := Lib.hid (by rw [HI.out, HD.out, List.any_cons, HT.out, hq]; rfl)
          clear hq HT HD HI
          go_wp2
          go_roundw
          case rel => exact ⟨j + 1, by omega, by go_num, HI2, HO⟩
          case measure => first | (simp [intOf]; done) | (simp [intOf]; omega)
      · obtain ⟨m, hxm⟩ : ∃ m : Nat, x = -((m : Int) + 1) := ⟨(-x - 1).toNat, by omega⟩
        have hm : m ≤ 11 := by omega
        have hs := (HS.out m).1
        have hs0 := (HS.out m).2
        have p1 : decide ((0 : Int) < x) = false := decide_eq_false (by omega)
        have p2 : decide (-20 ≤ x) = true := decide_eq_true (by omega)
        have p3 : decide (x < 0) = true := decide_eq_true (by omega)
        have HT : Hid (litT V x = !V.testBit m) := Lib.hid (by rw [hxm]; exact litT_mns V m)
        have p5 : IntKind.i64.wrap (-x) = (m : Int) + 1 := by rw [hxm]; simp [IntKind.wrap, IntKind.bits, IntKind.signed]; omega
        have p4 : IntKind.i64.wrap ((m : Int) + 1 - 1) = (m : Int) := by simp [IntKind.wrap, IntKind.bits, IntKind.signed]; omega
        clear hx hpos hxm
        cases hq : V.testBit m with
        | false =>
          rw [hq] at hs hs0
          have HE : Hid (c.any (litT V) = true) := Lib.hid (by rw [HI.out, HD.out, List.any_cons, HT.out, hq]; rfl)
          clear hq HT HD HI
          go_wp2
          go_ret
          exact ⟨ret_bool HE.out.symm, HO.out.1⟩
        | true =>
          rw [hq] at hs hs0
          have HI2 : Hid (c.any (litT V) = (c.drop (j + 1)).any (litT V)) := Lib.hid (by rw [HI.out, HD.out, List.any_cons, HT.out, hq]; rfl)
          clear hq HT HD HI
          go_wp2
          go_roundw
          case rel => exact ⟨j + 1, by omega, by go_num, HI2, HO⟩
          case measure => first | (simp [intOf]; done) | (simp [intOf]; omega)
    · have HE : Hid (c.any (litT V) = false) := Lib.hid (by rw [HI.out, List.drop_eq_nil_of_le (by have := HL.out; omega)]; rfl)
      go_wp2
      go_ret
      exact ⟨ret_bool HE.out.symm, HO.out.1⟩
end Go.Proofs.Ytopkmcoblndokaa
