/- Layer 5: Check and valid of the program. -/
import Derived.Test.YtcbmncafmofcpaaKe
namespace Go.Proofs.Ytcbmncafmofcpaa
open Go.RowKit Go.Proofs.Ws
theorem add_cell {w : World} {ad : Addr} {m j : Nat} {v : Option Value} (h : w.cell? (ad.add (m + (j + 1))) = v) : w.cell? ⟨(ad.add m).block, (ad.add m).off + (j + 1), none⟩ = v := by
  rw [← h, ← add_of_add]
  rfl
theorem errFrom_at : ∀ (l : List Nd) (k : Nat), k < l.length → errFrom k (l.drop k) = (if nodeErr (l.getD k nd0) (k : Int) ≠ 0 then nodeErr (l.getD k nd0) (k : Int) else errFrom (k + 1) (l.drop (k + 1))) := by
  intro l k hk
  rw [List.drop_eq_getElem_cons hk]
  show (if nodeErr l[k] (k : Int) ≠ 0 then nodeErr l[k] (k : Int) else errFrom (k + 1) (l.drop (k + 1))) = _
  rw [show l.getD k nd0 = l[k] from by simp [hk]]
theorem errFrom_end (l : List Nd) (k : Nat) (h : l.length ≤ k) : errFrom k (l.drop k) = 0 := by rw [List.drop_of_length_le h]; rfl
set_option maxRecDepth 100000 in
set_option maxHeartbeats 4000000 in
theorem pCheck_any (l : List Nd) (A : Option Addr) (n c : Nat) (w : World) (hR : Reads w w.heap.size 6 A n (nds l)) (hm : n ≤ maxLen) :
    Calls Try.prog 12 #[.slice A n c] w fun e w' => e = .returned (.int .i64 (fErr l)) ∧ Below w.heap.size w w' := by
  unfold maxLen at hm
  have hl := hR.nd_len
  have HL := Lib.hid hl
  have HR := Lib.hid hR
  clear hR
  by_cases h0 : n = 0
  · have HV : Hid (fErr l = 3) := Lib.hid (by unfold fErr; rw [if_pos (by omega)])
    subst h0
    clear hl
    go_enter Try.func12, Try.ntmps12
    go_wp2
    go_ret
    exact ⟨ret_i64 HV.out.symm, Below.refl _ _⟩
  have hne : ((n : Int) == 0) = false := by simp; omega
  by_cases h2 : 200 < n
  · have HV : Hid (fErr l = 8) := Lib.hid (by unfold fErr; rw [if_neg (by omega), if_pos (by omega)])
    have hgt : decide (200 < (n : Int)) = true := by simp; omega
    clear hl h0
    go_enter Try.func12, Try.ntmps12
    go_wp2
    go_ret
    exact ⟨ret_i64 HV.out.symm, Below.refl _ _⟩
  have HV : Hid (fErr l = errFrom 0 l) := Lib.hid (by unfold fErr; rw [if_neg (by omega), if_neg (by omega)])
  have hgt : decide (200 < (n : Int)) = false := by simp; omega
  have h200 : n ≤ 200 := by omega
  clear hl h0 h2
  go_enter Try.func12, Try.ntmps12
  go_wp2
  go_loopw [14] (fun i wr => ∃ k : Nat, k ≤ n ∧ i = .int .i64 k ∧ Hid (errFrom 0 l = errFrom k (l.drop k)) ∧ Hid (Below w.heap.size w wr)) (fun i _ => n - (intOf i).toNat)
  case atStart => exact ⟨0, Nat.zero_le _, rfl, Lib.hid rfl, Lib.hid (Below.refl _ _)⟩
  case round =>
    obtain ⟨k, hk, rfl, HI, HBR⟩ := hrel
    by_cases hlt : k < n
    · obtain ⟨ad, rfl, hb, m0, m1, m2, m3, m4, m5⟩ := (HR.out.below HBR.out).nd_at hlt
      have HE := Lib.hid (errFrom_at l k (by have := HL.out; omega))
      obtain ⟨x, hx⟩ : ∃ x, l.getD k nd0 = x := ⟨_, rfl⟩
      rw [hx] at m0 m1 m2 m3 m4 m5 HE
      have l1 := add_cell m1
      have l2 := add_cell m2
      have l3 := add_cell m3
      have l4 := add_cell m4
      have l5 := add_cell m5
      clear hx
      have HN : Hid (∀ W, Calls Try.prog 51 #[.agg #[.int .i64 x.op, .int .i64 x.i, .int .i64 x.e, .int .i64 x.g, .int .i64 x.x, .int .i64 x.y], .int .i64 (k : Int)] W fun e w' => e = .returned (.int .i64 (nodeErr x k)) ∧ Below W.heap.size W w') := Lib.hid (fun W => pNode_any x k W)
      have HA : Hid (∀ o w', Below (wr.alloc o).heap.size (wr.alloc o) w' → Below w.heap.size w w') := Lib.hid (fun o w' h => (HBR.out.alloc HBR.out.size o).trans (h.mono (by have := HBR.out.size; simp; omega)))
      obtain ⟨z, hz⟩ : ∃ z, nodeErr x (k : Int) = z := ⟨_, rfl⟩
      rw [hz] at HN HE
      clear hz
      by_cases hz0 : z = 0
      · subst hz0
        have HI2 := Lib.hid (HI.out.trans (by rw [HE.out, if_neg (by decide)]))
        clear HI HE
        go_wp2_with fail
        refine (HN.out _).mono ?_
        rintro e w2 ⟨rfl, hb2⟩
        have HB2 := Lib.hid (HA.out _ _ hb2)
        clear hb2 m0 m1 m2 m3 m4 m5 l1 l2 l3 l4 l5
        go_wp2
        go_roundw
        case rel => exact ⟨k + 1, by omega, by go_num, HI2, HB2⟩
        case measure => simp [intOf]; omega
      · have HI2 := Lib.hid (HV.out.trans (HI.out.trans (by rw [HE.out, if_pos hz0])))
        have hz1 : (z != 0) = true := by simpa using hz0
        clear HI HE hz0
        go_wp2_with fail
        refine (HN.out _).mono ?_
        rintro e w2 ⟨rfl, hb2⟩
        have HB2 := Lib.hid (HA.out _ _ hb2)
        clear hb2 m0 m1 m2 m3 m4 m5 l1 l2 l3 l4 l5
        go_wp2
        go_ret
        exact ⟨ret_i64 HI2.out.symm, HB2.out⟩
    · have HI2 := Lib.hid (HV.out.trans (HI.out.trans (errFrom_end l k (by have := HL.out; omega))))
      clear HI
      go_wp2
      go_ret
      exact ⟨ret_i64 HI2.out.symm, HBR.out⟩
theorem pValid_any (l : List Nd) (A : Option Addr) (n c : Nat) (w : World) (hR : Reads w w.heap.size 6 A n (nds l)) (hm : n ≤ maxLen) :
    Calls Try.prog 53 #[.slice A n c] w fun e w' => e = .returned (.bool (fErr l == 0)) ∧ Below w.heap.size w w' := by
  have HC := Lib.hid (pCheck_any l A n c w hR hm)
  generalize fErr l = z at *
  clear hR hm
  go_enter Try.func53, Try.ntmps53
  go_wp2_with fail
  refine HC.out.mono ?_
  rintro e w1 ⟨rfl, hb⟩
  have HB := Lib.hid hb
  clear hb HC
  go_wp2
  go_ret
  exact ⟨rfl, HB.out⟩
end Go.Proofs.Ytcbmncafmofcpaa
