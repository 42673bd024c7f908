/- Layer 4: the reference's Parse. -/
import Derived.Test.YtichhbnpdhfimaaDoorSz
import Derived.Test.YtichhbnpdhfimaaDoorSj
namespace Go.Proofs.YtichhbnpdhfimaaDoor
open Go.RowKit Go.Proofs.Ws
set_option maxRecDepth 100000 in
set_option maxHeartbeats 2000000 in
theorem pRefParse_any (v : Value) (A F X : List ByteArray) (t : ByteArray) (w : World) (hS : SigR w w.heap.size v A F X) (ht : t.size ≤ 1000) :
    Calls Tryd.prog 48 #[v, .string t] w fun e w' => e = .returned (.tuple #[.int .i64 ((parseV A F X t).1 : Nat), .int .i64 (parseV A F X t).2]) ∧ Below w.heap.size w w' := by
  have HS := Lib.hid hS
  have HC := Lib.hid (fun o => pRefSigCheck_any v A F X (w.alloc o) (hS.on ((Below.refl _ w).alloc (Nat.le_refl _) o)))
  obtain ⟨a0, n0, c0, a1, n1, c1, a2, n2, c2, rfl, _, _, _⟩ := hS
  unfold sv at HC HS ⊢
  have HBX := Lib.hid (@boxed w a0 a1 a2 n0 c0 n1 c1 n2 c2 39)
  have HT := Lib.hid ht
  skip
  have HPS := Lib.hid (parts_size t)
  have hPC : (partsB t).length ≤ 2000 := by have := parts_count t; omega
  clear ht
  by_cases h0 : sigErr A F X = 0
  · have HVY : Hid ((partsB t).all nameV = true → parseV A F X t = groupV A F X (partsB t)) := Lib.hid (fun h => by unfold parseV; rw [if_pos h0, if_pos h, group_ok h0 (partsB_ne t)])
    have HVN : Hid ((partsB t).all nameV = false → parseV A F X t = (0, 4)) := Lib.hid (fun h => by unfold parseV; rw [if_pos h0, if_neg (by rw [h]; decide)])
    rw [h0] at HC
    clear h0
    go_enter Tryd.func48, Tryd.ntmps48
    go_wp2_with fail
    refine (HC.out _).mono ?_
    rintro e w1 ⟨rfl, hb⟩
    have HB : Hid (Below w.heap.size w w1) := Lib.hid (((Below.refl _ w).alloc (Nat.le_refl _) _).trans (hb.mono (by simp)))
    have HBB : Hid (Below (w.heap.size + 1) (w.alloc (.cells #[.slice a0 n0 c0, .slice a1 n1 c1, .slice a2 n2 c2] 39)) w1) := Lib.hid (hb.mono (by simp))
    clear hb HC
    have HSP := Lib.hid (pParts_any t w1 HT.out)
    go_wp2_with fail
    refine (HSP.out).mono ?_
    rintro e w2 ⟨AD, C2, rfl, hR2, hb2⟩
    have HW2 : Hid (Below w1.heap.size w1 w2 ∧ Reads w2 w2.heap.size 1 AD (partsB t).length (ss (partsB t))) := Lib.hid ⟨hb2, hR2⟩
    generalize hCC : (partsB t).length = CC at *
    clear hCC hR2 hb2 HSP
    have HNL : Hid ((partsB t).length = CC) := Lib.hid HW2.out.2.str_len
    have HB2 : Hid (Below w.heap.size w w2) := Lib.hid (HB.out.trans (HW2.out.1.mono HB.out.size))
    have hcl := HBX.out w2 (HBB.out.trans (HW2.out.1.mono (by have := HBB.out.size; simpa using this)))
    obtain ⟨hcl0, hcl1, hcl2⟩ := hcl
    go_wp2
    go_loopw [8] (fun i wr => ∃ k : Nat, k ≤ CC ∧ i = .int .i64 k ∧ Hid (∀ j, j < k → nameV ((partsB t).getD j ByteArray.empty) = true) ∧ w2 = wr) (fun i _ => CC - (intOf i).toNat)
    case atStart => exact ⟨0, Nat.zero_le _, rfl, Lib.hid (fun j hj => absurd hj (by omega)), rfl⟩
    case round =>
      obtain ⟨k, hk, rfl, HI, rfl⟩ := hrel
      by_cases hlt : k < CC
      · obtain ⟨ad, hA, hbb, hc⟩ := HW2.out.2.str_at hlt
        subst hA
        have hmem : (partsB t).getD k ByteArray.empty ∈ partsB t := by
          rw [List.getD_eq_getElem?_getD, List.getElem?_eq_getElem (by rw [HNL.out]; exact hlt)]
          exact List.getElem_mem _
        have HNM := Lib.hid (fun W => pRefIsName_any ((partsB t).getD k ByteArray.empty) W (by have := HPS.out _ hmem; have := HT.out; unfold maxLen; omega))
        cases hn : nameV ((partsB t).getD k ByteArray.empty) with
        | false =>
          have HF := Lib.hid (HVN.out (List.all_eq_false.2 ⟨_, hmem, by rw [hn]; decide⟩))
          rw [hn] at HNM
          generalize (partsB t).getD k ByteArray.empty = x at *
          clear hn hmem HI
          go_wp2_with fail
          refine (HNM.out _).mono ?_
          rintro e w3 ⟨rfl, rfl⟩
          go_wp2
          go_ret2
          exact ⟨ret_grp (m := 0) HF.out, HB2.out⟩
        | true =>
          have HF : Hid (∀ j, j < k + 1 → nameV ((partsB t).getD j ByteArray.empty) = true) := Lib.hid (fun j hj => by
            by_cases e : j = k
            · subst e; exact hn
            · exact HI.out j (by omega))
          rw [hn] at HNM
          generalize (partsB t).getD k ByteArray.empty = x at *
          clear hn hmem HI
          go_wp2_with fail
          refine (HNM.out _).mono ?_
          rintro e w3 ⟨rfl, rfl⟩
          go_wp2
          go_roundw
          case rel => exact ⟨k + 1, by omega, by go_num, HF, by first | rfl | trivial⟩
          case measure => simp [intOf]; omega
      · have hkn : CC = k := by omega
        subst hkn
        have HF : Hid (parseV A F X t = groupV A F X (partsB t)) := Lib.hid (HVY.out (List.all_eq_true.2 (fun x hx => by
          obtain ⟨j, hj, rfl⟩ := List.mem_iff_getElem.1 hx
          have := HI.out j (by rw [← HNL.out]; exact hj)
          rw [List.getD_eq_getElem?_getD, List.getElem?_eq_getElem hj] at this
          exact this)))
        have HGP := Lib.hid (fun cc => pRefGroup_any (.agg #[.slice a0 n0 c0, .slice a1 n1 c1, .slice a2 n2 c2]) A F X (partsB t) AD CC cc w2 (HS.out.on HB2.out) HW2.out.2 (by unfold maxLen; omega))
        clear HI
        go_wp2_with fail
        refine (HGP.out _).mono ?_
        rintro e w3 ⟨rfl, hb3⟩
        have HB3 : Hid (Below w.heap.size w w3) := Lib.hid (HB2.out.trans (hb3.mono HB2.out.size))
        clear hb3
        go_wp2
        go_ret2
        exact ⟨by rw [HF.out]; rfl, HB3.out⟩
  · have HV : Hid (parseV A F X t = (0, sigErr A F X)) := Lib.hid (by unfold parseV; rw [if_neg h0])
    have hne : (sigErr A F X != 0) = true := by rw [bne_iff_ne]; exact h0
    generalize sigErr A F X = z at *
    clear h0
    go_enter Tryd.func48, Tryd.ntmps48
    go_wp2_with fail
    refine (HC.out _).mono ?_
    rintro e w1 ⟨rfl, hb⟩
    have HB : Hid (Below w.heap.size w w1) := Lib.hid (((Below.refl _ w).alloc (Nat.le_refl _) _).trans (hb.mono (by simp)))
    clear hb HC
    go_wp2
    go_ret2
    exact ⟨ret_grp (m := 0) HV.out, HB.out⟩
end Go.Proofs.YtichhbnpdhfimaaDoor
