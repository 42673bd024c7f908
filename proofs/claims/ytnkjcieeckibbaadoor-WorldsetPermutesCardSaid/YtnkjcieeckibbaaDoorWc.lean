/- Contracts: Of on both sides; Same; counts and lowest by the reference. -/
import Derived.Test.YtnkjcieeckibbaaDoorWb
namespace Go.Proofs.YtnkjcieeckibbaaDoor
open Go.RowKit Go.Proofs.Ws
/-- the set of a list, or the error of its first element that has one -/
def ofV : List Int → Nat → Nat × Int
  | [], s => (s, 0)
  | z :: l, s => if 0 ≤ z ∧ z < 64 then (if s.testBit z.toNat then (0, 7) else ofV l (s ||| p2 z.toNat)) else (0, 2)
def ints (zs : List Int) : List Value := zs.map (.int .i64 ·)
theorem ints_length (zs : List Int) : (ints zs).length = zs.length := by simp [ints]
theorem Reads.int_at {w : World} {B n : Nat} {A : Option Addr} {zs : List Int} (h : Reads w B 1 A n (ints zs)) {k : Nat} (hk : k < n) :
    ∃ ad z, A = some ad ∧ ad.block < B ∧ zs.drop k = z :: zs.drop (k + 1) ∧ w.cell? (ad.add k) = some (.int .i64 z) := by
  obtain ⟨ad, u, hA, hb, hu, hc⟩ := h.at_ hk
  unfold ints at hu
  rw [List.getElem?_map] at hu
  have hl : k < zs.length := by have := h.1; rw [ints_length] at this; omega
  rw [List.getElem?_eq_getElem hl] at hu
  simp at hu
  subst hu
  exact ⟨ad, zs[k], hA, hb, List.drop_eq_getElem_cons hl, hc⟩
theorem ret_tup {a b : Value} {c d : Value} (h : a = c) (h2 : b = d) : Ending.returned (.tuple #[a, b]) = .returned (.tuple #[c, d]) := by rw [h, h2]
theorem or_pow (a k : Nat) (ha : a < 18446744073709551616) (hk : k < 64) : bits .or .u64 (a : Int) (p2 k : Int) = ((a ||| p2 k : Nat) : Int) ∧ a ||| p2 k < 18446744073709551616 := by
  have h3 : p2 k < 18446744073709551616 := Nat.pow_lt_pow_right (by decide) hk
  exact ⟨u64_or_nat a (p2 k) ha h3, Nat.or_lt_two_pow (n := 64) ha h3⟩
theorem has_yes (s : Nat) (z : Int) (w : World) (hs : s < 18446744073709551616) (h : hasB s z = true) :
    Calls Tryd.prog 27 #[.int .u64 s, .int .i64 z] w fun e w' => e = .returned (.bool true) ∧ w = w' := by
  have := has_any s z w hs
  rwa [h] at this
theorem has_no (s : Nat) (z : Int) (w : World) (hs : s < 18446744073709551616) (h : hasB s z = false) :
    Calls Tryd.prog 27 #[.int .u64 s, .int .i64 z] w fun e w' => e = .returned (.bool false) ∧ w = w' := by
  have := has_any s z w hs
  rwa [h] at this
theorem refHas_yesI (s : Nat) (z : Int) (w : World) (hs : s < 18446744073709551616) (h : hasB s z = true) :
    Calls Tryd.prog 28 #[.int .u64 s, .int .i64 z] w fun e w' => e = .returned (.bool true) ∧ w = w' := by
  have := refHas_any s z w hs
  rwa [h] at this
theorem refHas_noI (s : Nat) (z : Int) (w : World) (hs : s < 18446744073709551616) (h : hasB s z = false) :
    Calls Tryd.prog 28 #[.int .u64 s, .int .i64 z] w fun e w' => e = .returned (.bool false) ∧ w = w' := by
  have := refHas_any s z w hs
  rwa [h] at this
set_option maxRecDepth 100000 in
set_option maxHeartbeats 1600000 in
theorem of_any (zs : List Int) (A : Option Addr) (n c B : Nat) (w : World) (hR : Reads w B 1 A n (ints zs)) (hn : n ≤ 140737488351232) :
    Calls Tryd.prog 16 #[.slice A n c] w fun e w' => e = .returned (.tuple #[.int .u64 (ofV zs 0).1, .int .i64 (ofV zs 0).2]) ∧ w = w' := by
  have hlen : zs.length = n := by have := hR.1; rw [ints_length] at this; omega
  have HL := Lib.hid hlen
  clear hlen
  go_enter Tryd.func16, Tryd.ntmps16
  go_wp2
  go_loop [4, 9] (fun s i => ∃ k a : Nat, k ≤ n ∧ i = .int .i64 k ∧ s = .int .u64 a ∧ Hid (a < 18446744073709551616) ∧ Hid (ofV zs 0 = ofV (zs.drop k) a)) (fun _ i => n - (intOf i).toNat)
  case atStart => exact ⟨0, 0, Nat.zero_le _, rfl, rfl, Lib.hid (by omega), Lib.hid rfl⟩
  case round =>
    obtain ⟨k, a, hk, rfl, rfl, Ha, Ho⟩ := hrel
    by_cases hlt : k < n
    · obtain ⟨ad, z, rfl, hb, hd, hc⟩ := hR.int_at hlt
      have HD := Lib.hid hd
      clear hd
      by_cases hz : 0 ≤ z ∧ z < 64
      · have HZ := Lib.hid hz
        have H1 := Lib.hid (isWorld_yes z w hz)
        have z1 := hz.1
        have z2 := hz.2
        clear hz
        by_cases hbit : a.testBit z.toNat = true
        · have H2 := Lib.hid (has_yes a z w Ha.out (by unfold hasB; rw [decide_eq_true HZ.out, hbit]; rfl))
          have HE : Hid (ofV zs 0 = (0, 7)) := Lib.hid (by rw [Ho.out, HD.out, ofV, if_pos HZ.out, if_pos hbit])
          clear hbit
          go_wp2_with (first | (go_at_call 67; refine (H1.out).mono ?_; rintro e w' ⟨rfl, rfl⟩) | (go_at_call 27; refine (H2.out).mono ?_; rintro e w' ⟨rfl, rfl⟩))
          go_ret2
          exact ⟨by rw [HE.out]; rfl, rfl⟩
        · have H2 := Lib.hid (has_no a z w Ha.out (by unfold hasB; simp [hbit]))
          have H3 := Lib.hid (only_int z w HZ.out)
          have hor := or_pow a z.toNat Ha.out (by omega)
          have HE : Hid (ofV zs 0 = ofV (zs.drop (k + 1)) (a ||| p2 z.toNat)) := Lib.hid (by rw [Ho.out, HD.out, ofV, if_pos HZ.out, if_neg hbit])
          have HO := Lib.hid hor.2
          have hor1 := hor.1
          clear hbit hor
          go_wp2_with (first | (go_at_call 67; refine (H1.out).mono ?_; rintro e w' ⟨rfl, rfl⟩) | (go_at_call 27; refine (H2.out).mono ?_; rintro e w' ⟨rfl, rfl⟩) | (go_at_call 68; refine (H3.out).mono ?_; rintro e w' ⟨rfl, rfl⟩))
          go_round
          case rel => exact ⟨k + 1, a ||| p2 z.toNat, by omega, by go_num, by first | rfl | go_num, HO, HE⟩
          case measure => simp [intOf]; omega
      · have H1 := Lib.hid (isWorld_no z w hz)
        have HE : Hid (ofV zs 0 = (0, 2)) := Lib.hid (by rw [Ho.out, HD.out, ofV, if_neg hz])
        clear hz
        go_wp2_with (go_at_call 67; refine (H1.out).mono ?_; rintro e w' ⟨rfl, rfl⟩)
        go_ret2
        exact ⟨by rw [HE.out]; rfl, rfl⟩
    · have HE : Hid (ofV zs 0 = (a, 0)) := Lib.hid (by rw [Ho.out, List.drop_eq_nil_of_le (by have := HL.out; omega), ofV])
      go_wp2
      go_ret2
      exact ⟨by rw [HE.out]; rfl, rfl⟩
end Go.Proofs.YtnkjcieeckibbaaDoor
