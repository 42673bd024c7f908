/- Contracts of layer 2's reference: the walk and the path. -/
import Derived.Test.YtogjbghieoifjaaDoorRw
namespace Go.Proofs.YtogjbghieoifjaaDoor
open Go.RowKit Go.Proofs.Ws
theorem low_le {x k : Nat} (h : x.testBit k = true) (hx : x < 18446744073709551616) : low x ≤ k := by
  apply Classical.byContradiction
  intro hn
  have h0 : x ≠ 0 := fun e => by subst e; simp at h
  have := testBit_below x h0 hx k (by omega)
  rw [this] at h; cases h
set_option maxRecDepth 100000 in
set_option maxHeartbeats 2000000 in
theorem walk_any (R : List Nat) (s K x0 : Nat) (A A1 : Option Addr) (n c c1 : Nat) (w : World) (hR : Reads w w.heap.size 1 A n (us R)) (hN : Reads w w.heap.size 1 A1 (K + 2) (us (lvls R s (K + 2)))) (h0 : relErr n R = 0) (hK : K < n) (hs : s < 18446744073709551616) (hW : OnWay R n s K (K + 2) x0) :
    Calls Tryd.prog 71 #[.slice A n c, .slice A1 (K + 2) c1, .int .u64 x0] w (GivesI (down R (lvl R s) (K + 2) x0) w) := by
  obtain ⟨j0, hj, hy0, hy1, hy2⟩ := info_parts Tryd.infoI
  have hl := hR.word_len
  have hn : n ≤ 64 := relErr_zero h0
  have HR := Lib.hid hR
  have HN := Lib.hid hN
  have HL := Lib.hid hl
  have H0 := Lib.hid h0
  have HSs := Lib.hid hs
  have HWAY := Lib.hid hW
  obtain ⟨M, hM⟩ : ∃ M, M = K + 1 := ⟨_, rfl⟩
  have hKK : (K : Int) + 2 - 1 = (M : Int) := by omega
  have HM := Lib.hid hM
  clear hR hN hl h0 hs hW hM
  go_enter Tryd.func71, Tryd.ntmps71
  go_wp2
  try simp only [hKK]
  clear hKK
  go_loopw [2, 7, 8] (fun x v i wr => ∃ (c y : Nat) (z : Int) (L : List Nat), z = (c : Int) - 1 ∧ wr.ownsRow w.heap.size 3 1 v L.length (iv L) ∧ x = .int .u64 y ∧ i = .int .i64 z ∧ Hid (OnWay R n s K c y ∧ L ++ down R (lvl R s) c y = down R (lvl R s) (K + 2) x0 ∧ Below w.heap.size w wr)) (fun _ _ i _ => (intOf i + 1).toNat)
  case atStart => exact ⟨K + 2, x0, _, [], by have := HM.out; omega, World.ownsRow_nil _ _ _ _, rfl, rfl, Lib.hid ⟨HWAY.out, rfl, Below.refl _ _⟩⟩
  case round =>
    obtain ⟨c, y, z, L, hz, hown, rfl, rfl, HI⟩ := hrel
    cases c with
    | zero =>
      have hzl : z < 0 := by omega
      clear hz
      have HE : Hid (L = down R (lvl R s) (K + 2) x0) := Lib.hid (by rw [← HI.out.2.1]; simp [down])
      have HB3 : Hid (Below w.heap.size w wr) := Lib.hid HI.out.2.2
      obtain ⟨A4, c4, rfl, hR4⟩ := own_reads hown
      have HR4 := Lib.hid hR4
      clear HI hown hR4
      go_wp2
      go_ret
      exact ⟨A4, c4, by rw [← HE.out]; rfl, by rw [← HE.out]; exact HR4.out, HB3.out⟩
    | succ c =>
      obtain rfl : z = (c : Int) := by omega
      clear hz
      have hpt := HI.out.1.point H0.out HL.out
      have hne := HI.out.1.hit (by omega)
      rw [Nat.add_sub_cancel] at hne
      have hsm := HI.out.1.small H0.out HL.out
      have hcK : c < K + 2 := by have := HI.out.1.le; omega
      obtain ⟨ad, hA1, hadl, hc2⟩ := ((HN.out.below HI.out.2.2).more HI.out.2.2.size).word_k hcK
      subst hA1
      rw [lvls_getD _ _ _ _ hcK] at hc2
      have hand : bits .and .u64 (y : Int) (lvl R s c : Int) = ((y &&& lvl R s c : Nat) : Int) := u64_and_nat _ _ HI.out.1.lt (lvl_64 H0.out HL.out HSs.out c)
      have ht64 : y &&& lvl R s c < 18446744073709551616 := Nat.lt_of_le_of_lt Nat.and_le_left HI.out.1.lt
      have HIN := Lib.hid (fun i (hi : i < 64) => in_any (y &&& lvl R s c) i wr ht64 hi)
      have HBELOW := Lib.hid (fun i (hi : i < low (y &&& lvl R s c)) => testBit_below (y &&& lvl R s c) hne ht64 i hi)
      have HAT := Lib.hid (testBit_low (y &&& lvl R s c) hne ht64)
      have HNX := Lib.hid (HI.out.1.next H0.out HL.out)
      have HEQ : Hid ((L ++ [low (y &&& lvl R s c)]) ++ down R (lvl R s) c (R.getD (low (y &&& lvl R s c)) 0) = down R (lvl R s) (K + 2) x0) := Lib.hid (by rw [← HI.out.2.1]; simp [down])
      have HB3 : Hid (Below w.heap.size w wr) := Lib.hid HI.out.2.2
      have hL : L.length ≤ 66 := by
        have h1 := congrArg List.length HI.out.2.1
        rw [List.length_append, down_len, down_len] at h1
        omega
      have HPT := Lib.hid hpt.1
      generalize y &&& lvl R s c = t at *
      generalize lvl R s c = d at *
      generalize low t = q at *
      clear HI hpt hne ht64
      go_wp2
      go_loopw [9] (fun i wr' => ∃ k : Nat, k ≤ q ∧ i = .int .i64 k ∧ wr' = wr) (fun i _ => q - (intOf i).toNat)
      case atStart => exact ⟨0, Nat.zero_le _, rfl, rfl⟩
      case round =>
        obtain ⟨k, hk, rfl, rfl⟩ := hrel
        by_cases hlt : k < q
        · have HINk := Lib.hid (HIN.out k (by omega))
          rw [HBELOW.out k hlt] at HINk
          go_wp2_with fail
          refine (HINk.out).mono ?_
          rintro e w' ⟨rfl, rfl⟩
          go_wp2
          go_roundw
          case rel => exact ⟨k + 1, by omega, by go_num, by first | rfl | trivial⟩
          case measure => simp [intOf]; omega
        · have hkq : q = k := by omega
          subst hkq
          have HINk := Lib.hid (HIN.out q hsm)
          rw [HAT.out] at HINk
          have hsz := HB3.out.size
          go_wp2_with fail
          refine (HINk.out).mono ?_
          rintro e w' ⟨rfl, rfl⟩
          go_wp2_with (at_builtin; refine wpList_append_own _ rfl _ _ 37 rfl w.heap.size 3 j0 (.int .i64 0) 1 8 Tryd.underlying37 hj hy0 hy1 hy2 rfl (by decide) _ _ _ rfl (hown.alloc _) ⟨wr.heap.size, 0, none⟩ 1 1 [.int .i64 q] rfl rfl ?c1 ?c2 ?c3 ?c4 ?c5 ?_)
          case c1 =>
            intro j u hj
            match j, hj with
            | 0, hj => simp at hj; subst hj; simp [Addr.add]
          case c2 => intro u hu; simp at hu; subst hu; rfl
          case c3 => unfold maxLen; omega
          case c4 => omega
          case c5 => simp; omega
          · intro v' w3 hown' hgrow _
            have hb3 : Below w.heap.size w w3 := (HB3.out.alloc hsz _).grown hgrow (by simp; omega) (fun j hj => by have := (hown.lt j hj).1; omega)
            obtain ⟨ad2, rfl, _, hc3⟩ := (HR.out.below hb3).word_k HPT.out
            have hown3 : w3.ownsRow w.heap.size 3 1 v' (L ++ [q]).length (iv (L ++ [q])) := by rw [iv_append, List.length_append]; exact hown'
            have HB4 := Lib.hid hb3
            have hqn := HPT.out
            clear hgrow hown hown' hb3
            go_wp2
            go_roundw
            case rel => exact ⟨c, R.getD q 0, _, L ++ [q], by omega, hown3, rfl, rfl, Lib.hid ⟨HNX.out, HEQ.out, HB4.out⟩⟩
            case measure => simp [intOf]
end Go.Proofs.YtogjbghieoifjaaDoor
