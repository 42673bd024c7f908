/- Layer 3: the check of a partition by the reference. -/
import Derived.Test.YtichhbnpdhfimaaDoorPc
namespace Go.Proofs.YtichhbnpdhfimaaDoor
open Go.RowKit Go.Proofs.Ws
set_option maxRecDepth 100000 in
theorem pRefCheck_any (l : List Int) (A : Option Addr) (n c B : Nat) (w : World) (hR : Reads w B 1 A n (ints l)) (hm : n ≤ maxLen) :
    Calls Tryd.prog 58 #[.slice A n c] w fun e w' => e = .returned (.int .i64 (partErr l)) ∧ w = w' := by
  unfold maxLen at hm
  have hl := hR.int_len
  by_cases h64 : n ≤ 64
  · have HOK := Lib.hid (partErr_ok (l := l) (by omega))
    have HBAD := Lib.hid (fun i (hi : i < n) => partErr_bad (l := l) (by omega) (i := i) (by omega))
    have HL := Lib.hid hl
    clear hl
    go_enter Tryd.func58, Tryd.ntmps58
    go_wp2
    go_loopw [10] (fun i wr => ∃ k : Nat, k ≤ n ∧ i = .int .i64 k ∧ Hid (∀ i, i < k → okAt l i = true) ∧ wr = w) (fun i _ => n - (intOf i).toNat)
    case atStart => exact ⟨0, Nat.zero_le _, rfl, Lib.hid (fun i hi => absurd hi (by omega)), rfl⟩
    case round =>
      obtain ⟨k, hk, rfl, HI, rfl⟩ := hrel
      by_cases hlt : k < n
      · obtain ⟨ad, rfl, hb, hc⟩ := hR.int_at hlt
        obtain ⟨x, hx⟩ : ∃ x, l.getD k 0 = x := ⟨_, rfl⟩
        rw [hx] at hc
        have HX := Lib.hid hx
        clear hx
        by_cases h0 : x < 0
        · have HB := Lib.hid (HBAD.out k hlt (by unfold okAt; rw [HX.out, decide_eq_false (by omega)]; rfl))
          have hd : decide (x < 0) = true := by simp; omega
          go_wp2
          go_ret
          exact ⟨ret_i64 HB.out.symm, rfl⟩
        · obtain ⟨y, rfl⟩ := Int.eq_ofNat_of_zero_le (show 0 ≤ x by omega)
          by_cases h1 : k < y
          · have HB := Lib.hid (HBAD.out k hlt (by unfold okAt; rw [HX.out, decide_eq_false (show ¬ ((y : Int) ≤ (k : Int)) by omega), Bool.and_false, Bool.false_and]))
            have hd : decide ((y : Int) < 0) = false := by simp
            have hd2 : decide ((k : Int) < (y : Int)) = true := by simp; omega
            have hd3 : decide (k < y) = true := by simp; omega
            clear h0
            go_wp2
            go_ret
            exact ⟨ret_i64 HB.out.symm, rfl⟩
          · have hyn : y < n := by omega
            obtain ⟨_, hA, _, hc2⟩ := hR.int_at hyn
            cases hA
            have hd : decide ((y : Int) < 0) = false := by simp
            have hd2 : decide ((k : Int) < (y : Int)) = false := by simp; omega
            have hd3 : decide (k < y) = false := by simp; omega
            by_cases h2 : l.getD y 0 = (y : Int)
            · have HN : Hid (∀ i, i < k + 1 → okAt l i = true) := Lib.hid (fun i hi => by
                by_cases e : i = k
                · subst e
                  unfold okAt
                  rw [HX.out, decide_eq_true (show (0 : Int) ≤ (y : Int) by omega), decide_eq_true (show (y : Int) ≤ (i : Int) by omega), Int.toNat_natCast, decide_eq_true h2]; rfl
                · exact HI.out i (by omega))
              rw [h2] at hc2
              clear h0 h2 HI
              go_wp2
              go_roundw
              case rel => exact ⟨k + 1, by omega, by go_num, HN, by first | rfl | trivial⟩
              case measure => simp [intOf]; omega
            · have HB := Lib.hid (HBAD.out k hlt (by unfold okAt; rw [HX.out, Int.toNat_natCast, decide_eq_false h2, Bool.and_false]))
              have hne : (l.getD y 0 != (y : Int)) = true := by rw [bne_iff_ne]; exact h2
              generalize l.getD y 0 = z at *
              clear h0 h2 HI
              go_wp2
              go_ret
              exact ⟨ret_i64 HB.out.symm, rfl⟩
      · have HB := Lib.hid (HOK.out (fun i hi => HI.out i (by have := HL.out; omega)))
        clear HI
        go_wp2
        go_ret
        exact ⟨ret_i64 HB.out.symm, rfl⟩
  · have HB : Hid (partErr l = 8) := Lib.hid (by unfold partErr; rw [if_pos (by omega)])
    clear hl
    go_enter Tryd.func58, Tryd.ntmps58
    go_wp2
    go_ret
    exact ⟨ret_i64 HB.out.symm, rfl⟩
end Go.Proofs.YtichhbnpdhfimaaDoor
