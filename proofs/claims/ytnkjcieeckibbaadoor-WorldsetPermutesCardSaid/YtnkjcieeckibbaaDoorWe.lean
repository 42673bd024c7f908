/- Contracts: Rename and First on both sides. -/
import Derived.Test.YtnkjcieeckibbaaDoorWd
namespace Go.Proofs.YtnkjcieeckibbaaDoor
open Go.RowKit Go.Proofs.Ws
/-- the set of the new numbers of some worlds, or the error of the first that has one -/
def renV (zs : List Int) : List Nat → Nat → Nat × Int
  | [], a => (a, 0)
  | k :: l, a => if k < zs.length then (if 0 ≤ zs.getD k 0 ∧ zs.getD k 0 < 64 then renV zs l (a ||| p2 (zs.getD k 0).toNat) else (0, 2)) else (0, 6)
theorem Reads.int_get {w : World} {B n : Nat} {A : Option Addr} {zs : List Int} (h : Reads w B 1 A n (ints zs)) {k : Nat} (hk : k < n) :
    ∃ ad, A = some ad ∧ ad.block < B ∧ w.cell? (ad.add k) = some (.int .i64 (zs.getD k 0)) := by
  obtain ⟨ad, u, hA, hb, hu, hc⟩ := h.at_ hk
  unfold ints at hu
  rw [List.getElem?_map] at hu
  have hl : k < zs.length := by have := h.1; rw [ints_length] at this; omega
  rw [List.getElem?_eq_getElem hl] at hu
  simp at hu
  subst hu
  refine ⟨ad, hA, hb, ?_⟩
  rw [hc, List.getD_eq_getElem?_getD, List.getElem?_eq_getElem hl]
  rfl
set_option maxRecDepth 100000 in
set_option maxHeartbeats 1600000 in
theorem rename_any (s : Nat) (zs : List Int) (A : Option Addr) (n c B : Nat) (w : World) (hs : s < 18446744073709551616) (hT : Tab w) (hR : Reads w B 1 A n (ints zs)) :
    Calls Tryd.prog 29 #[.int .u64 s, .slice A n c] w fun e w' => e = .returned (.tuple #[.int .u64 (renV zs (mem s) 0).1, .int .i64 (renV zs (mem s) 0).2]) ∧ w = w' := by
  have hlen : zs.length = n := by have := hR.1; rw [ints_length] at this; omega
  have HL := Lib.hid hlen
  have HS := Lib.hid hs
  have HT := Lib.hid hT
  clear hlen hs hT
  go_enter Tryd.func29, Tryd.ntmps29
  go_wp2
  go_loop [0, 6] (fun sv av => ∃ r a : Nat, sv = .int .u64 r ∧ av = .int .u64 a ∧ Hid (r < 18446744073709551616) ∧ Hid (a < 18446744073709551616) ∧ Hid (renV zs (mem s) 0 = renV zs (mem r) a)) (fun sv _ => (intOf sv).toNat)
  case atStart => exact ⟨s, 0, rfl, rfl, HS, Lib.hid (by omega), Lib.hid rfl⟩
  case round =>
    obtain ⟨r, a, rfl, rfl, Hr, Ha, Ho⟩ := hrel
    by_cases h0 : r = 0
    · subst h0
      have HE : Hid (renV zs (mem s) 0 = (a, 0)) := Lib.hid (by rw [Ho.out, mem_zero, renV])
      go_wp2
      go_ret2
      exact ⟨by rw [HE.out]; rfl, rfl⟩
    · have HZ := Lib.hid (tz_any r w Hr.out h0 HT.out)
      have hne : ((r : Int) != 0) = true := by simp; omega
      have hap := andpred r h0 Hr.out
      have H0 := Lib.hid h0
      have HM := Lib.hid (mem_step r h0 Hr.out)
      clear h0
      by_cases hlt : low r < n
      · obtain ⟨ad, rfl, hb, hc⟩ := hR.int_get hlt
        generalize hz : zs.getD (low r) 0 = z at *
        have Hz := Lib.hid hz
        clear hz
        by_cases hz : 0 ≤ z ∧ z < 64
        · have H1 := Lib.hid (isWorld_yes z w hz)
          have H3 := Lib.hid (only_int z w hz)
          have hor := or_pow a z.toNat Ha.out (by omega)
          have HO := Lib.hid hor.2
          have hor1 := hor.1
          have HE : Hid (renV zs (mem s) 0 = renV zs (mem (r &&& (r - 1))) (a ||| p2 z.toNat)) := Lib.hid (by rw [Ho.out, HM.out, renV, if_pos (by have := HL.out; omega), Hz.out, if_pos hz])
          clear hz hor
          go_wp2_with (first | (go_at_call 70; refine (HZ.out).mono ?_; rintro e w' ⟨rfl, rfl⟩) | (go_at_call 67; refine (H1.out).mono ?_; rintro e w' ⟨rfl, rfl⟩) | (go_at_call 68; refine (H3.out).mono ?_; rintro e w' ⟨rfl, rfl⟩))
          go_round
          case rel => exact ⟨r &&& (r - 1), a ||| p2 z.toNat, rfl, rfl, Lib.hid (by have := and_pred_lt r H0.out; have := Hr.out; omega), HO, HE⟩
          case measure => have := and_pred_lt r H0.out; simp [intOf]; omega
        · have H1 := Lib.hid (isWorld_no z w hz)
          have HE : Hid (renV zs (mem s) 0 = (0, 2)) := Lib.hid (by rw [Ho.out, HM.out, renV, if_pos (by have := HL.out; omega), Hz.out, if_neg hz])
          clear hz
          go_wp2_with (first | (go_at_call 70; refine (HZ.out).mono ?_; rintro e w' ⟨rfl, rfl⟩) | (go_at_call 67; refine (H1.out).mono ?_; rintro e w' ⟨rfl, rfl⟩))
          go_ret2
          exact ⟨by rw [HE.out]; rfl, rfl⟩
      · have HE : Hid (renV zs (mem s) 0 = (0, 6)) := Lib.hid (by rw [Ho.out, HM.out, renV, if_neg (by have := HL.out; omega)])
        go_wp2_with (go_at_call 70; refine (HZ.out).mono ?_; rintro e w' ⟨rfl, rfl⟩)
        go_ret2
        exact ⟨by rw [HE.out]; rfl, rfl⟩
set_option maxRecDepth 100000 in
set_option maxHeartbeats 1600000 in
theorem refRename_any (s : Nat) (zs : List Int) (A : Option Addr) (n c : Nat) (w : World) (hs : s < 18446744073709551616) (hR : Reads w w.heap.size 1 A n (ints zs)) :
    Calls Tryd.prog 30 #[.int .u64 s, .slice A n c] w fun e w' => e = .returned (.tuple #[.int .u64 (renV zs (mem s) 0).1, .int .i64 (renV zs (mem s) 0).2]) ∧ Below w.heap.size w w' := by
  have hlen : zs.length = n := by have := hR.1; rw [ints_length] at this; omega
  have HL := Lib.hid hlen
  have HC := Lib.hid (refMembers_any s w hs)
  have hm := mem_length_le s
  clear hlen hs
  go_enter Tryd.func30, Tryd.ntmps30
  go_wp2_with fail
  refine (HC.out).mono ?_
  rintro e w1 ⟨A1, c1, rfl, hR1, hb⟩
  have hR' := hR.below hb
  have HB := Lib.hid hb
  clear hR hb
  go_wp2
  go_loop [7, 8] (fun av i => ∃ k a : Nat, k ≤ (mem s).length ∧ i = .int .i64 k ∧ av = .int .u64 a ∧ Hid (a < 18446744073709551616) ∧ Hid (renV zs (mem s) 0 = renV zs ((mem s).drop k) a)) (fun _ i => (mem s).length - (intOf i).toNat)
  case atStart => exact ⟨0, 0, Nat.zero_le _, rfl, rfl, Lib.hid (by omega), Lib.hid rfl⟩
  case round =>
    obtain ⟨k, a, hk, rfl, rfl, Ha, Ho⟩ := hrel
    by_cases hlt : k < (mem s).length
    · obtain ⟨ad, u, rfl, hbk, hu, hc⟩ := hR1.at_ hlt
      obtain ⟨j, hj, rfl⟩ := iv_get _ _ _ hu
      have hjm : j ∈ mem s := List.mem_of_getElem? hj
      have hj64 := mem_lt s j hjm
      have HD : Hid ((mem s).drop k = j :: (mem s).drop (k + 1)) := Lib.hid (by
        rw [List.drop_eq_getElem_cons hlt]
        rw [List.getElem?_eq_getElem hlt] at hj
        simp at hj
        rw [hj])
      clear hu hj hjm
      by_cases hjn : j < n
      · obtain ⟨ad', rfl, hb', hc'⟩ := hR'.int_get hjn
        generalize hz : zs.getD j 0 = z at *
        have Hz := Lib.hid hz
        clear hz
        by_cases hz : 0 ≤ z ∧ z < 64
        · have z1 : ¬ (z < 0) := by omega
          have z2 : ¬ (64 ≤ z) := by omega
          have H3 := Lib.hid (bit_int z w1 hz)
          have hor := or_pow a z.toNat Ha.out (by omega)
          have HO := Lib.hid hor.2
          have hor1 := hor.1
          have HE : Hid (renV zs (mem s) 0 = renV zs ((mem s).drop (k + 1)) (a ||| p2 z.toNat)) := Lib.hid (by rw [Ho.out, HD.out, renV, if_pos (by have := HL.out; omega), Hz.out, if_pos hz])
          clear hz hor
          go_wp2_with (go_at_call 69; refine (H3.out).mono ?_; rintro e w' ⟨rfl, rfl⟩)
          go_round
          case rel => exact ⟨k + 1, a ||| p2 z.toNat, by omega, by go_num, by first | rfl | go_num, HO, HE⟩
          case measure => simp [intOf]; omega
        · have HE : Hid (renV zs (mem s) 0 = (0, 2)) := Lib.hid (by rw [Ho.out, HD.out, renV, if_pos (by have := HL.out; omega), Hz.out, if_neg hz])
          by_cases z1 : z < 0
          · clear hz
            go_wp2
            go_ret2
            exact ⟨by rw [HE.out]; rfl, HB.out⟩
          · have z2 : 64 ≤ z := by omega
            clear hz
            go_wp2
            go_ret2
            exact ⟨by rw [HE.out]; rfl, HB.out⟩
      · have HE : Hid (renV zs (mem s) 0 = (0, 6)) := Lib.hid (by rw [Ho.out, HD.out, renV, if_neg (by have := HL.out; omega)])
        go_wp2
        go_ret2
        exact ⟨by rw [HE.out]; rfl, HB.out⟩
    · have HE : Hid (renV zs (mem s) 0 = (a, 0)) := Lib.hid (by rw [Ho.out, List.drop_eq_nil_of_le (by omega), renV])
      go_wp2
      go_ret2
      exact ⟨by rw [HE.out]; rfl, HB.out⟩
/-- the first set of k worlds below n -/
def firstV (n k : Int) : Nat × Int := if n < 0 ∨ 64 < n ∨ k < 0 ∨ n < k then (0, 2) else (allV k, 0)
set_option maxRecDepth 100000 in
theorem first_any (n k : Int) (w : World) : Calls Tryd.prog 31 #[.int .i64 n, .int .i64 k] w fun e w' => e = .returned (.tuple #[.int .u64 (firstV n k).1, .int .i64 (firstV n k).2]) ∧ w = w' := by
  have H := Lib.hid (all_any k w)
  by_cases h1 : n < 0
  · have HE : Hid (firstV n k = (0, 2)) := Lib.hid (by unfold firstV; rw [if_pos (by omega)])
    go_enter Tryd.func31, Tryd.ntmps31
    go_wp2
    go_ret2
    exact ⟨by rw [HE.out]; rfl, rfl⟩
  · by_cases h2 : 64 < n
    · have HE : Hid (firstV n k = (0, 2)) := Lib.hid (by unfold firstV; rw [if_pos (by omega)])
      go_enter Tryd.func31, Tryd.ntmps31
      go_wp2
      go_ret2
      exact ⟨by rw [HE.out]; rfl, rfl⟩
    · by_cases h3 : k < 0
      · have HE : Hid (firstV n k = (0, 2)) := Lib.hid (by unfold firstV; rw [if_pos (by omega)])
        go_enter Tryd.func31, Tryd.ntmps31
        go_wp2
        go_ret2
        exact ⟨by rw [HE.out]; rfl, rfl⟩
      · by_cases h4 : n < k
        · have HE : Hid (firstV n k = (0, 2)) := Lib.hid (by unfold firstV; rw [if_pos (by omega)])
          go_enter Tryd.func31, Tryd.ntmps31
          go_wp2
          go_ret2
          exact ⟨by rw [HE.out]; rfl, rfl⟩
        · have HE : Hid (firstV n k = (allV k, 0)) := Lib.hid (by unfold firstV; rw [if_neg (by omega)])
          go_enter Tryd.func31, Tryd.ntmps31
          go_wp2_with (go_at_call 18; refine (H.out).mono ?_; rintro e w' ⟨rfl, rfl⟩)
          go_ret2
          exact ⟨by rw [HE.out]; rfl, rfl⟩
set_option maxRecDepth 100000 in
theorem refFirst_any (n k : Int) (w : World) : Calls Tryd.prog 32 #[.int .i64 n, .int .i64 k] w fun e w' => e = .returned (.tuple #[.int .u64 (firstV n k).1, .int .i64 (firstV n k).2]) ∧ w = w' := by
  have H := Lib.hid (refAll_any k w)
  by_cases h1 : n < 0
  · have HE : Hid (firstV n k = (0, 2)) := Lib.hid (by unfold firstV; rw [if_pos (by omega)])
    go_enter Tryd.func32, Tryd.ntmps32
    go_wp2
    go_ret2
    exact ⟨by rw [HE.out]; rfl, rfl⟩
  · by_cases h2 : 64 < n
    · have HE : Hid (firstV n k = (0, 2)) := Lib.hid (by unfold firstV; rw [if_pos (by omega)])
      go_enter Tryd.func32, Tryd.ntmps32
      go_wp2
      go_ret2
      exact ⟨by rw [HE.out]; rfl, rfl⟩
    · by_cases h3 : k < 0
      · have HE : Hid (firstV n k = (0, 2)) := Lib.hid (by unfold firstV; rw [if_pos (by omega)])
        go_enter Tryd.func32, Tryd.ntmps32
        go_wp2
        go_ret2
        exact ⟨by rw [HE.out]; rfl, rfl⟩
      · by_cases h4 : n < k
        · have HE : Hid (firstV n k = (0, 2)) := Lib.hid (by unfold firstV; rw [if_pos (by omega)])
          go_enter Tryd.func32, Tryd.ntmps32
          go_wp2
          go_ret2
          exact ⟨by rw [HE.out]; rfl, rfl⟩
        · have HE : Hid (firstV n k = (allV k, 0)) := Lib.hid (by unfold firstV; rw [if_neg (by omega)])
          go_enter Tryd.func32, Tryd.ntmps32
          go_wp2_with (go_at_call 19; refine (H.out).mono ?_; rintro e w' ⟨rfl, rfl⟩)
          go_ret2
          exact ⟨by rw [HE.out]; rfl, rfl⟩
end Go.Proofs.YtnkjcieeckibbaaDoor
