/- Layer 5: the reference's error of any node, and of a list of nodes. -/
import Derived.Test.YtcbmncafmofcpaaKj
import Derived.Test.YtcbmncafmofcpaaKi
namespace Go.Proofs.Ytcbmncafmofcpaa
open Go.RowKit Go.Proofs.Ws
set_option maxRecDepth 100000 in
theorem rNode_un (n : Nd) (idx : Int) (w : World) (hk : known n.op = false) : Calls Try.prog 52 #[nv n, .int .i64 idx] w fun e w' => e = .returned (.int .i64 (nodeErr n idx)) ∧ Below w.heap.size w w' := by
  obtain ⟨op, i, e, g, x, y⟩ := n
  unfold nv
  have HV : Hid (nodeErr ⟨op, i, e, g, x, y⟩ idx = 10) := Lib.hid (by unfold nodeErr; rw [if_pos hk])
  have HB : Hid (∀ o, Below w.heap.size w (w.alloc o)) := Lib.hid (fun o => (Below.refl _ w).alloc (Nat.le_refl _) o)
  have hn : op < 1 ∨ 21 < op := by
    unfold known at hk
    simp only [Bool.and_eq_false_iff, decide_eq_false_iff_not] at hk
    omega
  rw [HV.out]
  clear hk HV
  by_cases h1 : op < 1
  · have d1 : decide (op < 1) = true := decide_eq_true h1
    clear h1 hn
    go_enter Try.func52, Try.ntmps52
    go_wp2
    go_ret
    exact ⟨rfl, HB.out _⟩
  · have d1 : decide (op < 1) = false := decide_eq_false h1
    have d2 : decide (21 < op) = true := by simp; omega
    clear h1 hn
    go_enter Try.func52, Try.ntmps52
    go_wp2
    go_ret
    exact ⟨rfl, HB.out _⟩
theorem rNode_any (n : Nd) (idx : Int) (w : World) : Calls Try.prog 52 #[nv n, .int .i64 idx] w fun e w' => e = .returned (.int .i64 (nodeErr n idx)) ∧ Below w.heap.size w w' := by
  cases hk : known n.op with
  | false => exact rNode_un n idx w hk
  | true =>
    obtain ⟨op, i, e, g, x, y⟩ := n
    rcases known_cases op hk with rfl | rfl | rfl | rfl | rfl | rfl | rfl | rfl | rfl | rfl | rfl | rfl | rfl | rfl | rfl | rfl | rfl | rfl | rfl | rfl | rfl
    · exact rNode_a 1 i e g x y idx w hk rfl rfl rfl rfl rfl rfl rfl rfl rfl
    · exact rNode_a 2 i e g x y idx w hk rfl rfl rfl rfl rfl rfl rfl rfl rfl
    · exact rNode_b 3 i e g x y idx w hk rfl rfl rfl rfl rfl rfl rfl rfl rfl
    · exact rNode_c 4 i e g x y idx w hk rfl rfl rfl rfl rfl rfl rfl rfl rfl
    · exact rNode_d 5 i e g x y idx w hk rfl rfl rfl rfl rfl rfl rfl rfl rfl
    · exact rNode_d 6 i e g x y idx w hk rfl rfl rfl rfl rfl rfl rfl rfl rfl
    · exact rNode_d 7 i e g x y idx w hk rfl rfl rfl rfl rfl rfl rfl rfl rfl
    · exact rNode_d 8 i e g x y idx w hk rfl rfl rfl rfl rfl rfl rfl rfl rfl
    · exact rNode_e 9 i e g x y idx w hk rfl rfl rfl rfl rfl rfl rfl rfl rfl
    · exact rNode_e 10 i e g x y idx w hk rfl rfl rfl rfl rfl rfl rfl rfl rfl
    · exact rNode_g 11 i e g x y idx w hk rfl rfl rfl rfl rfl rfl rfl rfl rfl
    · exact rNode_g 12 i e g x y idx w hk rfl rfl rfl rfl rfl rfl rfl rfl rfl
    · exact rNode_h 13 i e g x y idx w hk rfl rfl rfl rfl rfl rfl rfl rfl rfl
    · exact rNode_f 14 i e g x y idx w hk rfl rfl rfl rfl rfl rfl rfl rfl rfl
    · exact rNode_e 15 i e g x y idx w hk rfl rfl rfl rfl rfl rfl rfl rfl rfl
    · exact rNode_d 16 i e g x y idx w hk rfl rfl rfl rfl rfl rfl rfl rfl rfl
    · exact rNode_i 17 i e g x y idx w hk rfl rfl rfl rfl rfl rfl rfl rfl rfl
    · exact rNode_c 18 i e g x y idx w hk rfl rfl rfl rfl rfl rfl rfl rfl rfl
    · exact rNode_d 19 i e g x y idx w hk rfl rfl rfl rfl rfl rfl rfl rfl rfl
    · exact rNode_c 20 i e g x y idx w hk rfl rfl rfl rfl rfl rfl rfl rfl rfl
    · exact rNode_d 21 i e g x y idx w hk rfl rfl rfl rfl rfl rfl rfl rfl rfl
set_option maxRecDepth 100000 in
set_option maxHeartbeats 4000000 in
theorem rCheck_any (l : List Nd) (A : Option Addr) (n c : Nat) (w : World) (hR : Reads w w.heap.size 6 A n (nds l)) (hm : n ≤ maxLen) :
    Calls Try.prog 13 #[.slice A n c] w fun e w' => e = .returned (.int .i64 (fErr l)) ∧ Below w.heap.size w w' := by
  unfold maxLen at hm
  have hl := hR.nd_len
  have HL := Lib.hid hl
  have HR := Lib.hid hR
  clear hR
  by_cases h0 : n = 0
  · have HV : Hid (fErr l = 3) := Lib.hid (by unfold fErr; rw [if_pos (by omega)])
    subst h0
    clear hl
    go_enter Try.func13, Try.ntmps13
    go_wp2
    go_ret
    exact ⟨ret_i64 HV.out.symm, Below.refl _ _⟩
  have hne : ((n : Int) == 0) = false := by simp; omega
  by_cases h2 : 200 < n
  · have HV : Hid (fErr l = 8) := Lib.hid (by unfold fErr; rw [if_neg (by omega), if_pos (by omega)])
    have hgt : decide (200 < (n : Int)) = true := by simp; omega
    clear hl h0
    go_enter Try.func13, Try.ntmps13
    go_wp2
    go_ret
    exact ⟨ret_i64 HV.out.symm, Below.refl _ _⟩
  have HV : Hid (fErr l = errFrom 0 l) := Lib.hid (by unfold fErr; rw [if_neg (by omega), if_neg (by omega)])
  have hgt : decide (200 < (n : Int)) = false := by simp; omega
  have h200 : n ≤ 200 := by omega
  clear hl h0 h2
  go_enter Try.func13, Try.ntmps13
  go_wp2
  go_loopw [3] (fun i wr => ∃ k : Nat, k ≤ n ∧ i = .int .i64 k ∧ Hid (errFrom 0 l = errFrom k (l.drop k)) ∧ Hid (Below w.heap.size w wr)) (fun i _ => n - (intOf i).toNat)
  case atStart => exact ⟨0, Nat.zero_le _, rfl, Lib.hid rfl, Lib.hid (Below.refl _ _)⟩
  case round =>
    obtain ⟨k, hk, rfl, HI, HBR⟩ := hrel
    by_cases hlt : k < n
    · obtain ⟨ad, rfl, hb, m0, m1, m2, m3, m4, m5⟩ := (HR.out.below HBR.out).nd_at hlt
      have HE := Lib.hid (errFrom_at l k (by have := HL.out; omega))
      obtain ⟨x, hx⟩ : ∃ x, l.getD k nd0 = x := ⟨_, rfl⟩
      rw [hx] at m0 m1 m2 m3 m4 m5 HE
      have l1 := add_cell m1
      have l2 := add_cell m2
      have l3 := add_cell m3
      have l4 := add_cell m4
      have l5 := add_cell m5
      clear hx
      have HN : Hid (∀ W, Calls Try.prog 52 #[.agg #[.int .i64 x.op, .int .i64 x.i, .int .i64 x.e, .int .i64 x.g, .int .i64 x.x, .int .i64 x.y], .int .i64 (k : Int)] W fun e w' => e = .returned (.int .i64 (nodeErr x k)) ∧ Below W.heap.size W w') := Lib.hid (fun W => rNode_any x k W)
      have HA : Hid (∀ w', Below wr.heap.size wr w' → Below w.heap.size w w') := Lib.hid (fun w' h => HBR.out.trans (h.mono HBR.out.size))
      obtain ⟨z, hz⟩ : ∃ z, nodeErr x (k : Int) = z := ⟨_, rfl⟩
      rw [hz] at HN HE
      clear hz
      by_cases hz0 : z = 0
      · subst hz0
        have HI2 := Lib.hid (HI.out.trans (by rw [HE.out, if_neg (by decide)]))
        clear HI HE
        go_wp2_with fail
        refine (HN.out _).mono ?_
        rintro e w2 ⟨rfl, hb2⟩
        have HB2 := Lib.hid (HA.out _ hb2)
        clear hb2 m0 m1 m2 m3 m4 m5 l1 l2 l3 l4 l5
        go_wp2
        go_roundw
        case rel => exact ⟨k + 1, by omega, by go_num, HI2, HB2⟩
        case measure => simp [intOf]; omega
      · have HI2 := Lib.hid (HV.out.trans (HI.out.trans (by rw [HE.out, if_pos hz0])))
        have hz1 : (z != 0) = true := by simpa using hz0
        clear HI HE hz0
        go_wp2_with fail
        refine (HN.out _).mono ?_
        rintro e w2 ⟨rfl, hb2⟩
        have HB2 := Lib.hid (HA.out _ hb2)
        clear hb2 m0 m1 m2 m3 m4 m5 l1 l2 l3 l4 l5
        go_wp2
        go_ret
        exact ⟨ret_i64 HI2.out.symm, HB2.out⟩
    · have HI2 := Lib.hid (HV.out.trans (HI.out.trans (errFrom_end l k (by have := HL.out; omega))))
      clear HI
      go_wp2
      go_ret
      exact ⟨ret_i64 HI2.out.symm, HBR.out⟩
end Go.Proofs.Ytcbmncafmofcpaa
