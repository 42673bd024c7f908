/- Layer 5: Same and Compare of the program. -/
import Derived.Test.YtcbmncafmofcpaaKza
namespace Go.Proofs.Ytcbmncafmofcpaa
open Go.RowKit Go.Proofs.Ws Go.Maps
theorem cmpI_zero {a b : Int} (h : cmpI a b = 0) : a = b := by
  unfold cmpI at h
  by_cases h1 : a < b
  · rw [if_pos h1] at h; omega
  · rw [if_neg h1] at h
    by_cases h2 : b < a
    · rw [if_pos h2] at h; omega
    · omega
set_option maxRecDepth 100000 in
set_option maxHeartbeats 4000000 in
theorem cmpFunc_any (a b : List Nd) (A A2 : Option Addr) (n c c2 : Nat) (w : World) (hR : Reads w w.heap.size 6 A n (nds a)) (hR2 : Reads w w.heap.size 6 A2 n (nds b)) (hm : n ≤ maxLen) :
    Calls Try.prog 67 #[.slice A n c, .slice A2 n c2, .func (Fn.func 68) #[] #[]] w fun e w' => e = .returned (.int .i64 (cmpNs a b)) ∧ Below w.heap.size w w' := by
  have hl := hR.nd_len
  have hl2 := hR2.nd_len
  have HL := Lib.hid hl
  have HL2 := Lib.hid hl2
  have HR := Lib.hid hR
  have HR2 := Lib.hid hR2
  unfold maxLen at hm
  clear hR hR2 hl hl2
  go_enter Try.func67, Try.ntmps67
  go_wp2
  go_loopw [7, 8, 9, 10, 13] (fun u1 u2 u3 u4 i wr => ∃ k : Nat, k ≤ n ∧ i = .int .i64 k ∧ Hid (cmpNs a b = cmpNs (a.drop k) (b.drop k)) ∧ Hid (Below w.heap.size w wr)) (fun _ _ _ _ i _ => n - (intOf i).toNat)
  case atStart => exact ⟨0, Nat.zero_le _, rfl, Lib.hid rfl, Lib.hid (Below.refl _ _)⟩
  case round =>
    obtain ⟨k, hk, rfl, HI, HB⟩ := hrel
    by_cases hlt : k < n
    · obtain ⟨ad, rfl, hb, m0, m1, m2, m3, m4, m5⟩ := (HR.out.below HB.out).nd_at hlt
      have HA := Lib.hid (cmpNs_at a b k (by have := HL.out; omega) (by have := HL2.out; omega))
      obtain ⟨x, hx⟩ : ∃ x, a.getD k nd0 = x := ⟨_, rfl⟩
      obtain ⟨y, hy⟩ : ∃ y, b.getD k nd0 = y := ⟨_, rfl⟩
      have HRa := Lib.hid (((HR2.out.below HB.out).alloc HB.out.size (.cells #[.int .i64 x.op, .int .i64 x.i, .int .i64 x.e, .int .i64 x.g, .int .i64 x.x, .int .i64 x.y] 44)).nd_at hlt)
      obtain ⟨ad2, rfl, hb2, q0, q1, q2, q3, q4, q5⟩ := HRa.out
      rw [hx] at m0 m1 m2 m3 m4 m5 HA
      rw [hy] at q0 q1 q2 q3 q4 q5 HA
      clear hx hy HRa
      have l1 := add_cell m1
      have l2 := add_cell m2
      have l3 := add_cell m3
      have l4 := add_cell m4
      have l5 := add_cell m5
      have r1 := add_cell q1
      have r2 := add_cell q2
      have r3 := add_cell q3
      have r4 := add_cell q4
      have r5 := add_cell q5
      have HC := Lib.hid (fun W => cmpNode_any x y W)
      unfold nv at HC
      have hge : decide ((k : Int) ≥ (n : Int)) = false := decide_eq_false (by omega)
      have hge2 : decide (n ≤ k) = false := decide_eq_false (by omega)
      have HB2 : Hid (∀ o1 o2 w', Below ((wr.alloc o1).alloc o2).heap.size ((wr.alloc o1).alloc o2) w' → Below w.heap.size w w') := Lib.hid (fun o1 o2 w' h => ((HB.out.alloc HB.out.size o1).alloc (by have := HB.out.size; simp; omega) o2).trans (h.mono (by have := HB.out.size; simp; omega)))
      generalize cmpN x y = z at *
      go_wp2_with fail
      refine (HC.out _).mono ?_
      rintro e w3 ⟨rfl, hb3⟩
      have HB3 := Lib.hid (HB2.out _ _ _ hb3)
      clear hb3 m0 m1 m2 m3 m4 m5 q0 q1 q2 q3 q4 q5 l1 l2 l3 l4 l5 r1 r2 r3 r4 r5
      by_cases hz : z = 0
      · subst hz
        have HI2 := Lib.hid (HI.out.trans (HA.out.trans (if_neg (by simp))))
        clear HI HA
        go_wp2
        go_roundw
        case rel => exact ⟨k + 1, by omega, by go_num, HI2, HB3⟩
        case measure => simp [intOf]; omega
      · have HI2 := Lib.hid (HI.out.trans (HA.out.trans (if_pos hz)))
        have hz1 : (z != 0) = true := by simpa using hz
        clear HI HA hz
        go_wp2
        go_ret
        exact ⟨ret_i64 HI2.out.symm, HB3.out⟩
    · have HI2 : Hid (cmpNs a b = 0) := Lib.hid (HI.out.trans (cmpNs_end a b k (by have := HL.out; omega)))
      clear HI
      go_wp2
      go_ret
      exact ⟨ret_i64 HI2.out.symm, HB.out⟩
set_option maxRecDepth 100000 in
set_option maxHeartbeats 4000000 in
theorem pCompare_any (a b : List Nd) (A A2 : Option Addr) (n m c c2 : Nat) (w : World) (hR : Reads w w.heap.size 6 A n (nds a)) (hR2 : Reads w w.heap.size 6 A2 m (nds b)) (hm : n ≤ maxLen) (hm2 : m ≤ maxLen) :
    Calls Try.prog 36 #[.slice A n c, .slice A2 m c2] w fun e w' => e = .returned (.int .i64 (cmpF a b)) ∧ Below w.heap.size w w' := by
  have HC1 := Lib.hid (pCompact_any a A n c w hR hm)
  have HC2 : Hid (∀ W, Below w.heap.size w W → Calls Try.prog 25 #[.slice A2 m c2] W fun e w' => ∃ A' c', e = .returned (.slice A' (compF b).length c') ∧ Reads w' w'.heap.size 6 A' (compF b).length (nds (compF b)) ∧ Below W.heap.size W w') :=
    Lib.hid (fun W h => pCompact_any b A2 m c2 W ((hR2.below h).more h.size) hm2)
  have HLa : (compF a).length ≤ maxLen := Nat.le_trans (compF_le a) (by rw [hR.nd_len]; exact hm)
  have HLb : (compF b).length ≤ maxLen := Nat.le_trans (compF_le b) (by rw [hR2.nd_len]; exact hm2)
  have HK := Lib.hid (fun W => cmpInt_any ((compF a).length : Int) ((compF b).length : Int) W)
  unfold cmpF
  generalize compF a = p at *
  generalize compF b = q at *
  have HF : Hid (p.length = q.length → ∀ (A3 A4 : Option Addr) (c3 c4 : Nat) (W : World), Reads W W.heap.size 6 A3 p.length (nds p) → Reads W W.heap.size 6 A4 q.length (nds q) → Calls Try.prog 67 #[.slice A3 p.length c3, .slice A4 q.length c4, .func (Fn.func 68) #[] #[]] W fun e w' => e = .returned (.int .i64 (cmpNs p q)) ∧ Below W.heap.size W w') :=
    Lib.hid (fun e A3 A4 c3 c4 W h1 h2 => by rw [← e] at h2 ⊢; exact cmpFunc_any p q A3 A4 p.length c3 c4 W h1 h2 HLa)
  unfold maxLen at HLa HLb
  clear hR hR2
  have HZ : Hid (cmpI (p.length : Int) (q.length : Int) = 0 → p.length = q.length) := Lib.hid (fun h => by have := cmpI_zero h; omega)
  generalize cmpI (p.length : Int) (q.length : Int) = z at *
  go_enter Try.func36, Try.ntmps36
  go_wp2_with fail
  refine (HC1.out).mono ?_
  rintro e w1 ⟨A3, c3, rfl, hR3, hb1⟩
  have HR3 := Lib.hid hR3
  have HB1 := Lib.hid hb1
  clear hR3 hb1
  go_wp2_with fail
  refine (HC2.out _ HB1.out).mono ?_
  rintro e w2 ⟨A4, c4, rfl, hR4, hb2⟩
  have HR4 := Lib.hid hR4
  have HR3b := Lib.hid ((HR3.out.below hb2).more hb2.size)
  have HB2 := Lib.hid (HB1.out.trans (hb2.mono HB1.out.size))
  clear hR4 hb2
  go_wp2_with fail
  refine (HK.out _).mono ?_
  rintro e w3 ⟨rfl, rfl⟩
  by_cases hz : z = 0
  · have HL := Lib.hid (HZ.out hz)
    subst hz
    go_wp2_with fail
    refine (HF.out HL.out A3 A4 c3 c4 _ HR3b.out HR4.out).mono ?_
    rintro e w3 ⟨rfl, hb3⟩
    have HB3 := Lib.hid (HB2.out.trans (hb3.mono HB2.out.size))
    clear hb3
    go_wp2
    go_ret
    exact ⟨rfl, HB3.out⟩
  · have hz1 : (z != 0) = true := by simpa using hz
    have HZ2 := Lib.hid hz
    clear hz
    go_wp2
    go_ret
    exact ⟨ret_i64 (by first | rfl | (rw [if_pos HZ2.out])), HB2.out⟩
def sameF (a b : List Nd) : Bool := decide (fErr a = 0 ∧ fErr b = 0 ∧ compF a = compF b)
set_option maxRecDepth 100000 in
set_option maxHeartbeats 4000000 in
theorem pSame_any (a b : List Nd) (A A2 : Option Addr) (n m c c2 : Nat) (w : World) (hR : Reads w w.heap.size 6 A n (nds a)) (hR2 : Reads w w.heap.size 6 A2 m (nds b)) (hm : n ≤ maxLen) (hm2 : m ≤ maxLen) :
    Calls Try.prog 34 #[.slice A n c, .slice A2 m c2] w fun e w' => e = .returned (.bool (sameF a b)) ∧ Below w.heap.size w w' := by
  have HV1 := Lib.hid (pValid_any a A n c w hR hm)
  have HV2 : Hid (∀ W, Below w.heap.size w W → Calls Try.prog 53 #[.slice A2 m c2] W fun e w' => e = .returned (.bool (fErr b == 0)) ∧ Below W.heap.size W w') := Lib.hid (fun W h => pValid_any b A2 m c2 W ((hR2.below h).more h.size) hm2)
  have HR := Lib.hid hR
  have HR2 := Lib.hid hR2
  by_cases hza : fErr a = 0
  · by_cases hzb : fErr b = 0
    · have hla : n ≤ 200 := by have := (fErr_ok hza).2.1; rw [hR.nd_len] at this; exact this
      have hlb : m ≤ 200 := by have := (fErr_ok hzb).2.1; rw [hR2.nd_len] at this; exact this
      have e1 : compF a = canonF a := by unfold compF; rw [if_pos hza]
      have e2 : compF b = canonF b := by unfold compF; rw [if_pos hzb]
      have HC1 : Hid (∀ W, Below w.heap.size w W → Calls Try.prog 54 #[.slice A n c] W fun e w' => ∃ A' c', e = .returned (.slice A' (compF a).length c') ∧ Reads w' w'.heap.size 6 A' (compF a).length (nds (compF a)) ∧ Below W.heap.size W w') :=
        Lib.hid (fun W h => by rw [e1]; exact pCanon_any a (OkL_of hza) A n c W ((hR.below h).more h.size) (by omega))
      have HC2 : Hid (∀ W, Below w.heap.size w W → Calls Try.prog 54 #[.slice A2 m c2] W fun e w' => ∃ A' c', e = .returned (.slice A' (compF b).length c') ∧ Reads w' w'.heap.size 6 A' (compF b).length (nds (compF b)) ∧ Below W.heap.size W w') :=
        Lib.hid (fun W h => by rw [e2]; exact pCanon_any b (OkL_of hzb) A2 m c2 W ((hR2.below h).more h.size) (by omega))
      have HLa : (compF a).length ≤ maxLen := Nat.le_trans (compF_le a) (by rw [hR.nd_len]; exact hm)
      have HLb : (compF b).length ≤ maxLen := Nat.le_trans (compF_le b) (by rw [hR2.nd_len]; exact hm2)
      have HS : Hid (sameF a b = decide (compF a = compF b)) := Lib.hid (by unfold sameF; simp [hza, hzb])
      rw [hza] at HV1
      rw [hzb] at HV2
      clear e1 e2 hR hR2
      generalize sameF a b = sf at *
      generalize compF a = p at *
      generalize compF b = q at *
      have HE := Lib.hid (fun A3 A4 c3 c4 W (h1 : Reads W W.heap.size 6 A3 p.length (nds p)) (h2 : Reads W W.heap.size 6 A4 q.length (nds q)) => sEqual_any p q A3 A4 p.length q.length c3 c4 W h1 h2 HLa HLb)
      unfold maxLen at HLa HLb
      clear hza hzb
      go_enter Try.func34, Try.ntmps34
      go_wp2_with fail
      refine (HV1.out).mono ?_
      rintro e w1 ⟨rfl, hb1⟩
      have HB1 := Lib.hid hb1
      clear hb1
      go_wp2_with fail
      refine (HV2.out _ HB1.out).mono ?_
      rintro e w2 ⟨rfl, hb2⟩
      have HB2 := Lib.hid (HB1.out.trans (hb2.mono HB1.out.size))
      clear hb2
      go_wp2_with fail
      refine (HC1.out _ HB2.out).mono ?_
      rintro e w3 ⟨A3, c3, rfl, hR3, hb3⟩
      have HR3 := Lib.hid hR3
      have HB3 := Lib.hid (HB2.out.trans (hb3.mono HB2.out.size))
      clear hR3 hb3
      go_wp2_with fail
      refine (HC2.out _ HB3.out).mono ?_
      rintro e w4 ⟨A4, c4, rfl, hR4, hb4⟩
      have HR4 := Lib.hid hR4
      have HR3b := Lib.hid ((HR3.out.below hb4).more hb4.size)
      have HB4 := Lib.hid (HB3.out.trans (hb4.mono HB3.out.size))
      clear hR4 hb4
      go_wp2_with fail
      refine (HE.out A3 A4 c3 c4 _ HR3b.out HR4.out).mono ?_
      rintro e w5 ⟨rfl, hb5⟩
      have HB5 := Lib.hid (HB4.out.trans (hb5.mono HB4.out.size))
      clear hb5
      go_wp2
      go_ret
      exact ⟨by rw [HS.out]; rfl, HB5.out⟩
    · have HS : Hid (sameF a b = false) := Lib.hid (by unfold sameF; simp [hzb])
      have hzc : (fErr b == 0) = false := by simpa using hzb
      rw [hza] at HV1
      rw [hzc] at HV2
      clear hzc hR hR2 hza hzb
      go_enter Try.func34, Try.ntmps34
      go_wp2_with fail
      refine (HV1.out).mono ?_
      rintro e w1 ⟨rfl, hb1⟩
      have HB1 := Lib.hid hb1
      clear hb1
      go_wp2_with fail
      refine (HV2.out _ HB1.out).mono ?_
      rintro e w2 ⟨rfl, hb2⟩
      have HB2 := Lib.hid (HB1.out.trans (hb2.mono HB1.out.size))
      clear hb2
      go_wp2
      go_ret
      exact ⟨by rw [HS.out]; rfl, HB2.out⟩
  · have HS : Hid (sameF a b = false) := Lib.hid (by unfold sameF; simp [hza])
    have hzc : (fErr a == 0) = false := by simpa using hza
    rw [hzc] at HV1
    clear hzc hR hR2 hza
    go_enter Try.func34, Try.ntmps34
    go_wp2_with fail
    refine (HV1.out).mono ?_
    rintro e w1 ⟨rfl, hb1⟩
    have HB1 := Lib.hid hb1
    clear hb1
    go_wp2
    go_ret
    exact ⟨by rw [HS.out]; rfl, HB1.out⟩
end Go.Proofs.Ytcbmncafmofcpaa
