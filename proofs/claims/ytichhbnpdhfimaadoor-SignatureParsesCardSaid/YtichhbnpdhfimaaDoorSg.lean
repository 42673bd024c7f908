/- Layer 4: the reference's check of a signature. -/
import Derived.Test.YtichhbnpdhfimaaDoorSf
namespace Go.Proofs.YtichhbnpdhfimaaDoor
open Go.RowKit Go.Proofs.Ws
theorem idx_contains {L : List ByteArray} {k : Nat} (hk : k < L.length) : decide (Lib.idxOfS L (L.getD k ByteArray.empty) < (k : Int)) = Lib.containsS (L.take k) (L.getD k ByteArray.empty) := by
  have h := idx_lt_take hk
  cases hc : Lib.containsS (L.take k) (L.getD k ByteArray.empty)
  · rw [decide_eq_false_iff_not, h, ← Lib.containsS_iff, hc]; decide
  · rw [decide_eq_true_eq, h, ← Lib.containsS_iff, hc]
set_option maxRecDepth 100000 in
set_option maxHeartbeats 4000000 in
theorem pRefSigCheck_any (v : Value) (A F X : List ByteArray) (w : World) (hS : SigR w w.heap.size v A F X) :
    Calls Tryd.prog 28 #[v] w fun e w' => e = .returned (.int .i64 (sigErr A F X)) ∧ Below w.heap.size w w' := by
  have HS := Lib.hid hS
  obtain ⟨a0, n0, c0, a1, n1, c1, a2, n2, c2, rfl, h0, h1, h2⟩ := hS
  unfold sv at HS ⊢
  have l0 := h0.1.str_len
  have l1 := h1.1.str_len
  have l2 := h2.1.str_len
  have m0 := h0.2.2.1
  have m1 := h1.2.2.1
  have m2 := h2.2.2.1
  by_cases b0 : 4 < n0
  · have HV : Hid (sigErr A F X = 8) := Lib.hid (by unfold sigErr; rw [if_neg (by omega)])
    have d0 : decide ((4 : Int) < (n0 : Int)) = true := by simp; omega
    clear h0 h1 h2 l0 l1 l2
    go_enter Tryd.func28, Tryd.ntmps28
    go_wp2
    go_ret
    exact ⟨ret_i64 HV.out.symm, (Below.refl _ w).alloc (Nat.le_refl _) _⟩
  · by_cases b1 : 8 < n1
    · have HV : Hid (sigErr A F X = 8) := Lib.hid (by unfold sigErr; rw [if_neg (by omega)])
      have d0 : decide ((4 : Int) < (n0 : Int)) = false := by simp; omega
      have d1 : decide ((8 : Int) < (n1 : Int)) = true := by simp; omega
      clear h0 h1 h2 l0 l1 l2
      go_enter Tryd.func28, Tryd.ntmps28
      go_wp2
      go_ret
      exact ⟨ret_i64 HV.out.symm, (Below.refl _ w).alloc (Nat.le_refl _) _⟩
    · by_cases b2 : 8 < n2
      · have HV : Hid (sigErr A F X = 8) := Lib.hid (by unfold sigErr; rw [if_neg (by omega)])
        have d0 : decide ((4 : Int) < (n0 : Int)) = false := by simp; omega
        have d1 : decide ((8 : Int) < (n1 : Int)) = false := by simp; omega
        have d2 : decide ((8 : Int) < (n2 : Int)) = true := by simp; omega
        clear h0 h1 h2 l0 l1 l2
        go_enter Tryd.func28, Tryd.ntmps28
        go_wp2
        go_ret
        exact ⟨ret_i64 HV.out.symm, (Below.refl _ w).alloc (Nat.le_refl _) _⟩
      · have d0 : decide ((4 : Int) < (n0 : Int)) = false := by simp; omega
        have d1 : decide ((8 : Int) < (n1 : Int)) = false := by simp; omega
        have d2 : decide ((8 : Int) < (n2 : Int)) = false := by simp; omega
        have HC : Hid (∀ o, Calls Tryd.prog 62 #[.agg #[.slice a0 n0 c0, .slice a1 n1 c1, .slice a2 n2 c2]] (w.alloc o) _) := Lib.hid (fun o => pRefAll_any _ A F X (w.alloc o) (HS.out.on ((Below.refl _ w).alloc (Nat.le_refl _) o)))
        obtain ⟨L, hL⟩ : ∃ L, L = A ++ (F ++ X) := ⟨_, rfl⟩
        have HV : Hid (sigErr A F X = ckFrom [] L) := Lib.hid (by unfold sigErr; rw [if_pos (by omega), hL])
        have HSZ : Hid (∀ x ∈ L, x.size ≤ maxLen) := Lib.hid (fun x hx => by
          rw [hL] at hx
          rcases List.mem_append.1 hx with hx | hx
          · exact h0.2.2.2.1 x hx
          · rcases List.mem_append.1 hx with hx | hx
            · exact h1.2.2.2.1 x hx
            · exact h2.2.2.2.1 x hx)
        have HLL : Hid (L.length ≤ 60) := Lib.hid (by rw [hL]; simp; omega)
        rw [← hL] at HC
        clear h0 h1 h2 l0 l1 l2 hL HS
        go_enter Tryd.func28, Tryd.ntmps28
        go_wp2_with fail
        refine (HC.out _).mono ?_
        rintro e w1 ⟨A1, C1, rfl, hR1, hb1⟩
        have HB1 : Hid (Below w.heap.size w w1) := Lib.hid (((Below.refl _ w).alloc (Nat.le_refl _) _).trans (hb1.mono (by simp)))
        have HR1 := Lib.hid hR1
        have hLL := HLL.out
        clear hb1 HC hR1
        generalize hN : L.length = N at *
        have HNL := Lib.hid hN
        clear hN
        go_wp2
        go_loopw [4] (fun i wr => ∃ k : Nat, k ≤ N ∧ i = .int .i64 k ∧ Hid (ckFrom (L.take k) (L.drop k) = ckFrom [] L) ∧ w1 = wr) (fun i _ => N - (intOf i).toNat)
        case atStart => exact ⟨0, Nat.zero_le _, rfl, Lib.hid (by rw [List.take_zero, List.drop_zero]), rfl⟩
        case round =>
          obtain ⟨k, hk, rfl, HI, rfl⟩ := hrel
          by_cases hlt : k < N
          · obtain ⟨ad, hA1, hbb, hc⟩ := HR1.out.str_at hlt
            subst hA1
            have HST := Lib.hid (ck_step (L := L) (k := k) (by rw [HNL.out]; exact hlt) HI.out)
            have hsz : (L.getD k ByteArray.empty).size ≤ maxLen := by
              rw [List.getD_eq_getElem?_getD, List.getElem?_eq_getElem (by rw [HNL.out]; exact hlt)]
              exact HSZ.out _ (List.getElem_mem _)
            have HIC := Lib.hid (idx_contains (L := L) (k := k) (by rw [HNL.out]; exact hlt))
            have HNM := Lib.hid (fun W => pRefIsName_any (L.getD k ByteArray.empty) W hsz)
            have HRS := Lib.hid (fun W => pRefReserved_any (L.getD k ByteArray.empty) W)
            have HFD := Lib.hid (pRefFind_any L (L.getD k ByteArray.empty) (some ad) N C1 _ w1 HR1.out (by unfold maxLen; omega))
            generalize L.getD k ByteArray.empty = x at *
            generalize Lib.idxOfS L x = z at *
            cases hn : nameV x with
            | false =>
              have HF := Lib.hid (HST.out.1 hn)
              rw [hn] at HNM
              clear hn HST HI
              go_wp2_with fail
              refine (HNM.out _).mono ?_
              rintro e w2 ⟨rfl, rfl⟩
              go_wp2
              go_ret
              exact ⟨ret_i64 (by rw [HV.out, HF.out]), HB1.out⟩
            | true =>
              rw [hn] at HNM
              cases hr : resV x with
              | true =>
                have HF := Lib.hid (HST.out.2.1 hn (.inl hr))
                rw [hr] at HRS
                clear hn hr HST HI
                go_wp2_with (first | (go_at_call 30; refine (HNM.out _).mono ?_; rintro e w2 ⟨rfl, rfl⟩) | (go_at_call 32; refine (HRS.out _).mono ?_; rintro e w2 ⟨rfl, rfl⟩))
                go_ret
                exact ⟨ret_i64 (by rw [HV.out, HF.out]), HB1.out⟩
              | false =>
                rw [hr] at HRS
                cases hcn : Lib.containsS (L.take k) x with
                | true =>
                  have HF := Lib.hid (HST.out.2.1 hn (.inr hcn))
                  have hz := HIC.out.trans hcn
                  clear hn hr hcn HST HI HIC
                  go_wp2_with (first | (go_at_call 30; refine (HNM.out _).mono ?_; rintro e w2 ⟨rfl, rfl⟩) | (go_at_call 32; refine (HRS.out _).mono ?_; rintro e w2 ⟨rfl, rfl⟩) | (go_at_call 63; refine (HFD.out).mono ?_; rintro e w2 ⟨rfl, rfl⟩))
                  go_ret
                  exact ⟨ret_i64 (by rw [HV.out, HF.out]), HB1.out⟩
                | false =>
                  have HF := Lib.hid (HST.out.2.2 hn hr hcn)
                  have hz := HIC.out.trans hcn
                  clear hn hr hcn HST HI HIC
                  go_wp2_with (first | (go_at_call 30; refine (HNM.out _).mono ?_; rintro e w2 ⟨rfl, rfl⟩) | (go_at_call 32; refine (HRS.out _).mono ?_; rintro e w2 ⟨rfl, rfl⟩) | (go_at_call 63; refine (HFD.out).mono ?_; rintro e w2 ⟨rfl, rfl⟩))
                  go_roundw
                  case rel => exact ⟨k + 1, by omega, by go_num, HF, by first | rfl | trivial⟩
                  case measure => simp [intOf]; omega
          · have hkn : N = k := by omega
            subst hkn
            have HF : Hid (ckFrom [] L = 0) := Lib.hid (by
              have := HI.out
              rw [← HNL.out, List.drop_length, ckFrom] at this
              exact this.symm)
            clear HI
            go_wp2
            go_ret
            exact ⟨ret_i64 (by rw [HV.out, HF.out]), HB1.out⟩
end Go.Proofs.YtichhbnpdhfimaaDoor
