/- Contracts: the reference's Of, Same, Count, Lowest. -/
import Derived.Test.YtnkjcieeckibbaaDoorWc
import Derived.Outline
import Derived.WalkSmall
namespace Go.Proofs.YtnkjcieeckibbaaDoor
open Go.RowKit Go.Proofs.Ws
theorem refCount_any (s : Nat) (w : World) (hs : s < 18446744073709551616) :
    Calls Tryd.prog 24 #[.int .u64 s] w fun e w' => e = .returned (.int .i64 ((mem s).length : Int)) ∧ Below w.heap.size w w' := by
  have H := Lib.hid (refMembers_any s w hs)
  clear hs
  go_enter Tryd.func24, Tryd.ntmps24
  go_wp2_with fail
  refine (H.out).mono ?_
  rintro e w1 ⟨A, c, rfl, hR, hb⟩
  have HB := Lib.hid hb
  clear hb hR
  go_wp2
  go_ret
  exact ⟨rfl, HB.out⟩
theorem mem_nonempty (s : Nat) (h0 : s ≠ 0) (hs : s < 18446744073709551616) : ∃ l, mem s = low s :: l := ⟨_, mem_step s h0 hs⟩
set_option maxRecDepth 100000 in
theorem refLowest_any (s : Nat) (w : World) (hs : s < 18446744073709551616) :
    Calls Tryd.prog 26 #[.int .u64 s] w fun e w' => e = .returned (.int .i64 (lowV s)) ∧ Below w.heap.size w w' := by
  have H := Lib.hid (refMembers_any s w hs)
  by_cases h0 : s = 0
  · have HV : Hid (lowV s = -1) := Lib.hid (by unfold lowV; rw [if_pos h0])
    have hl : (((mem s).length : Int) == 0) = true := by rw [h0, mem_zero]; rfl
    clear hs h0
    go_enter Tryd.func26, Tryd.ntmps26
    go_wp2_with fail
    refine (H.out).mono ?_
    rintro e w1 ⟨A, c, rfl, hR, hb⟩
    have HB := Lib.hid hb
    clear hb hR
    go_wp2
    go_ret
    exact ⟨ret_i64 (by rw [HV.out]), HB.out⟩
  · have HV : Hid (lowV s = low s) := Lib.hid (by unfold lowV; rw [if_neg h0])
    obtain ⟨l, hm⟩ := mem_nonempty s h0 hs
    have hl : (((mem s).length : Int) == 0) = false := by rw [hm]; simp; omega
    have hp : 0 < (mem s).length := by rw [hm]; simp
    have HM := Lib.hid hm
    clear hs h0 hm
    go_enter Tryd.func26, Tryd.ntmps26
    go_wp2_with fail
    refine (H.out).mono ?_
    rintro e w1 ⟨A, c, rfl, hR, hb⟩
    have HB := Lib.hid hb
    obtain ⟨ad, u, rfl, _, hu, hc⟩ := hR.at_ hp
    rw [HM.out] at hu
    simp [iv] at hu
    subst hu
    have hc0 : w1.cell? ad = some (.int .i64 (low s)) := by simpa [Addr.add] using hc
    clear hb hR hc
    go_wp2
    go_ret
    exact ⟨ret_i64 (by rw [HV.out]), HB.out⟩
set_option maxRecDepth 100000 in
set_option maxHeartbeats 1600000 in
theorem refOf_any (zs : List Int) (A : Option Addr) (n c B : Nat) (w : World) (hR : Reads w B 1 A n (ints zs)) (hn : n ≤ 140737488351232) :
    Calls Tryd.prog 17 #[.slice A n c] w fun e w' => e = .returned (.tuple #[.int .u64 (ofV zs 0).1, .int .i64 (ofV zs 0).2]) ∧ w = w' := by
  have hlen : zs.length = n := by have := hR.1; rw [ints_length] at this; omega
  have HL := Lib.hid hlen
  clear hlen
  go_enter Tryd.func17, Tryd.ntmps17
  go_wp2
  go_loop [4, 5] (fun s i => ∃ k a : Nat, k ≤ n ∧ i = .int .i64 k ∧ s = .int .u64 a ∧ Hid (a < 18446744073709551616) ∧ Hid (ofV zs 0 = ofV (zs.drop k) a)) (fun _ i => n - (intOf i).toNat)
  case atStart => exact ⟨0, 0, Nat.zero_le _, rfl, rfl, Lib.hid (by omega), Lib.hid rfl⟩
  case round =>
    obtain ⟨k, a, hk, rfl, rfl, Ha, Ho⟩ := hrel
    by_cases hlt : k < n
    · obtain ⟨ad, z, rfl, hb, hd, hc⟩ := hR.int_at hlt
      have HD := Lib.hid hd
      clear hd
      by_cases hz : 0 ≤ z ∧ z < 64
      · have HZ := Lib.hid hz
        have z1 : ¬ (z < 0) := by omega
        have z2 : ¬ (64 ≤ z) := by omega
        clear hz
        by_cases hbit : a.testBit z.toNat = true
        · have H2 := Lib.hid (refHas_yesI a z w Ha.out (by unfold hasB; rw [decide_eq_true HZ.out, hbit]; rfl))
          have HE : Hid (ofV zs 0 = (0, 7)) := Lib.hid (by rw [Ho.out, HD.out, ofV, if_pos HZ.out, if_pos hbit])
          clear hbit
          go_wp2_with (go_at_call 28; refine (H2.out).mono ?_; rintro e w' ⟨rfl, rfl⟩)
          go_ret2
          exact ⟨by rw [HE.out]; rfl, rfl⟩
        · have H2 := Lib.hid (refHas_noI a z w Ha.out (by unfold hasB; simp [hbit]))
          have H3 := Lib.hid (bit_int z w HZ.out)
          have hor := or_pow a z.toNat Ha.out (by omega)
          have HE : Hid (ofV zs 0 = ofV (zs.drop (k + 1)) (a ||| p2 z.toNat)) := Lib.hid (by rw [Ho.out, HD.out, ofV, if_pos HZ.out, if_neg hbit])
          have HO := Lib.hid hor.2
          have hor1 := hor.1
          clear hbit hor
          go_wp2_with (first | (go_at_call 28; refine (H2.out).mono ?_; rintro e w' ⟨rfl, rfl⟩) | (go_at_call 69; refine (H3.out).mono ?_; rintro e w' ⟨rfl, rfl⟩))
          go_round
          case rel => exact ⟨k + 1, a ||| p2 z.toNat, by omega, by go_num, by first | rfl | go_num, HO, HE⟩
          case measure => simp [intOf]; omega
      · have HE : Hid (ofV zs 0 = (0, 2)) := Lib.hid (by rw [Ho.out, HD.out, ofV, if_neg hz])
        by_cases z1 : z < 0
        · clear hz
          go_wp2
          go_ret2
          exact ⟨by rw [HE.out]; rfl, rfl⟩
        · have z2 : 64 ≤ z := by omega
          clear hz
          go_wp2
          go_ret2
          exact ⟨by rw [HE.out]; rfl, rfl⟩
    · have HE : Hid (ofV zs 0 = (a, 0)) := Lib.hid (by rw [Ho.out, List.drop_eq_nil_of_le (by have := HL.out; omega), ofV])
      go_wp2
      go_ret2
      exact ⟨by rw [HE.out]; rfl, rfl⟩
set_option maxRecDepth 100000 in
/-- two lists of naturals are equal, as Same finds it -/
theorem same_yes (l : List Nat) (A A' : Option Addr) (c c' : Nat) (w : World) (h1 : Reads w w.heap.size 1 A l.length (iv l)) (h2 : Reads w w.heap.size 1 A' l.length (iv l)) (hn : l.length ≤ 140737488351232) :
    Calls Tryd.prog 20 #[.slice A l.length c, .slice A' l.length c'] w fun e w' => e = .returned (.bool true) ∧ Below w.heap.size w w' := by
  have hne : ((l.length : Int) != (l.length : Int)) = false := by simp
  go_enter Tryd.func20, Tryd.ntmps20
  go_wp2
  go_loopw [5] (fun i wr => ∃ k : Nat, k ≤ l.length ∧ i = .int .i64 k ∧ Below w.heap.size w wr) (fun i _ => l.length - (intOf i).toNat)
  case atStart => exact ⟨0, Nat.zero_le _, rfl, Below.refl _ _⟩
  case round =>
    obtain ⟨k, hk, rfl, hb⟩ := hrel
    by_cases hlt : k < l.length
    · obtain ⟨ad, u, rfl, hbk, hu, hc⟩ := (h1.below hb).at_ hlt
      obtain ⟨ad', u', rfl, hbk', hu', hc'⟩ := (h2.below hb).at_ hlt
      rw [hu] at hu'
      simp at hu'
      subst hu'
      obtain ⟨x, hx, rfl⟩ := iv_get _ _ _ hu
      have hnn : ((x : Int) != (x : Int)) = false := by simp
      clear hu hx
      go_wp2
      go_quiet (fail)
      go_wp2
      go_roundw
      case rel => exact ⟨k + 1, by omega, by go_num, by first | exact hb.drew | exact below_drewN hb _⟩
      case measure => simp [intOf]; omega
    · have e : k = l.length := by omega
      subst e
      go_wp2
      go_ret
      exact ⟨rfl, hb⟩
end Go.Proofs.YtnkjcieeckibbaaDoor
