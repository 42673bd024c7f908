/- Layer 4: the text of a group, by the reference. -/
import Derived.Test.YtichhbnpdhfimaaDoorSl
namespace Go.Proofs.YtichhbnpdhfimaaDoor
open Go.RowKit Go.Proofs.Ws
theorem name_size {x : ByteArray} (h : nameV x = true) : x.size ≤ 8 := by
  unfold nameV nameL at h
  simp only [Bool.and_eq_true, decide_eq_true_eq] at h
  have := h.1.1.2
  rwa [ba_len] at this
theorem joinV_append (l : List ByteArray) (x : ByteArray) : joinV (l ++ [x]) = if l = [] then x else joinV l ++ ⟨#[44]⟩ ++ x := by
  by_cases hl : l = []
  · subst hl
    rw [if_pos rfl]
    unfold joinV
    simp [Lib.join_one]
  · rw [if_neg hl]
    obtain ⟨y, r, rfl⟩ : ∃ y r, l = y :: r := by
      cases l with
      | nil => exact absurd rfl hl
      | cons y r => exact ⟨y, r, rfl⟩
    apply ByteArray.ext
    unfold joinV
    rw [ByteArray.data_append, ByteArray.data_append]
    apply Array.toList_inj.1
    simp [Lib.join_cons, Lib.joinTail]
theorem joinV_full {l : List ByteArray} (hl : l ≠ []) (h : ∀ x ∈ l, nameV x = true) : (joinV l).toList.isEmpty = false := by
  rw [Lib.toList_data]
  obtain ⟨y, r, rfl⟩ : ∃ y r, l = y :: r := by
    cases l with
    | nil => exact absurd rfl hl
    | cons y r => exact ⟨y, r, rfl⟩
  have hy := h y (by simp)
  have h1 : 1 ≤ y.data.toList.length := by
    unfold nameV nameL at hy
    simp only [Bool.and_eq_true, decide_eq_true_eq] at hy
    exact hy.1.1.1
  unfold joinV
  show ((Lib.join ((y :: r).map (·.data.toList)) [44]).toArray.toList).isEmpty = false
  rw [List.map_cons, Lib.join_cons]
  cases hd : y.data.toList with
  | nil => rw [hd] at h1; simp at h1
  | cons _ _ => rfl
theorem rem_i64t : ∀ m : Fin 16, ∀ j : Fin 4, (Int.tmod ((m.1 : Int) / 2 ^ j.1) 2 == 1) = m.1.testBit j.1 := by decide +kernel
set_option maxRecDepth 100000 in
set_option maxHeartbeats 4000000 in
theorem pRefText_any (v : Value) (A F X : List ByteArray) (g : Int) (w : World) (hS : SigR w w.heap.size v A F X) :
    Calls Tryd.prog 46 #[v, .int .i64 g] w fun e w' => e = .returned (.tuple #[.string (textV A F X g).1, .int .i64 (textV A F X g).2]) ∧ Below w.heap.size w w' := by
  have HC := Lib.hid (fun o => pRefSigCheck_any v A F X (w.alloc o) (hS.on ((Below.refl _ w).alloc (Nat.le_refl _) o)))
  obtain ⟨a0, n0, c0, a1, n1, c1, a2, n2, c2, rfl, h0, h1, h2⟩ := hS
  have HL0 := Lib.hid h0
  have hm0 : n0 ≤ 20 := h0.2.2.1
  unfold sv at HC ⊢
  have HBX := Lib.hid (@boxed w a0 a1 a2 n0 c0 n1 c1 n2 c2 39)
  have HAL := Lib.hid h0.1.str_len
  clear h0 h1 h2
  by_cases h0 : sigErr A F X = 0
  · have hA4 : A.length ≤ 4 := (sigErr_ok h0).1
    have hn4 : n0 ≤ 4 := by rw [← HAL.out]; exact hA4
    have HNM : Hid (∀ x ∈ A, nameV x = true) := Lib.hid (fun x hx => ((sigErr_ok h0).2.2.2.1 x (List.mem_append.2 (.inl hx))).1)
    have hsh := shl_i64 ⟨n0, by omega⟩
    dsimp only at hsh
    by_cases hg1 : g < 1
    · have HV : Hid (textV A F X g = (ByteArray.empty, 2)) := Lib.hid (text_out h0 (by omega))
      have d1 : decide (g < 1) = true := by simp; omega
      rw [h0] at HC
      clear h0 hA4
      go_enter Tryd.func46, Tryd.ntmps46
      go_wp2_with fail
      refine (HC.out _).mono ?_
      rintro e w1 ⟨rfl, hb⟩
      have HB : Hid (Below w.heap.size w w1) := Lib.hid (((Below.refl _ w).alloc (Nat.le_refl _) _).trans (hb.mono (by simp)))
      clear hb HC
      go_wp2
      go_ret2
      exact ⟨ret_txt HV.out, HB.out⟩
    · have d1 : decide (g < 1) = false := by simp; omega
      obtain ⟨m, rfl⟩ := Int.eq_ofNat_of_zero_le (show 0 ≤ g by omega)
      by_cases hg2 : 2 ^ n0 ≤ m
      · have HV : Hid (textV A F X (m : Int) = (ByteArray.empty, 2)) := Lib.hid (text_out h0 (fun hh => by
          have h3 := hh.2
          rw [HAL.out] at h3
          have h4 : m < 2 ^ n0 := by exact_mod_cast h3
          omega))
        have d2 : decide (wrap64 ((2 : Int) ^ n0) ≤ (m : Int)) = true := by rw [hsh, decide_eq_true_eq]; exact_mod_cast hg2
        rw [h0] at HC
        clear h0 hA4 hsh hg1 hg2
        go_enter Tryd.func46, Tryd.ntmps46
        go_wp2_with fail
        refine (HC.out _).mono ?_
        rintro e w1 ⟨rfl, hb⟩
        have HB : Hid (Below w.heap.size w w1) := Lib.hid (((Below.refl _ w).alloc (Nat.le_refl _) _).trans (hb.mono (by simp)))
        have hcell := (HBX.out w1 (hb.mono (by simp))).1
        clear hb HC
        go_wp2
        go_ret2
        exact ⟨ret_txt HV.out, HB.out⟩
      · have HG : Hid (1 ≤ m ∧ m < 2 ^ A.length) := Lib.hid ⟨by omega, by rw [HAL.out]; omega⟩
        have hm16 : m < 16 := Nat.lt_of_lt_of_le (Nat.lt_of_not_le hg2) (pow4 hn4)
        have HV : Hid (textV A F X (m : Int) = (joinV (selK A m A.length), 0)) := Lib.hid (text_ok h0 HG.out.1 HG.out.2)
        have d2 : decide (wrap64 ((2 : Int) ^ n0) ≤ (m : Int)) = false := by rw [hsh, decide_eq_false_iff_not]; intro hh; exact hg2 (by exact_mod_cast hh)
        rw [h0] at HC
        clear h0 hA4 hsh hg1 hg2
        go_enter Tryd.func46, Tryd.ntmps46
        go_wp2_with fail
        refine (HC.out _).mono ?_
        rintro e w1 ⟨rfl, hb⟩
        have HB : Hid (Below w.heap.size w w1) := Lib.hid (((Below.refl _ w).alloc (Nat.le_refl _) _).trans (hb.mono (by simp)))
        have hcell := (HBX.out w1 (hb.mono (by simp))).1
        clear hb HC
        go_wp2
        clear d1 d2
        go_loopw [7, 8] (fun sv i wr => ∃ (k : Nat) (t : ByteArray), k ≤ n0 ∧ i = .int .i64 k ∧ sv = .string t ∧ t.size ≤ 9 * k ∧ Hid (t = joinV (selK A m k)) ∧ wr = w1) (fun _ i _ => n0 - (intOf i).toNat)
        case atStart => exact ⟨0, ⟨#[]⟩, Nat.zero_le _, rfl, rfl, by decide, Lib.hid rfl, rfl⟩
        case round =>
          obtain ⟨k, t, hk, rfl, rfl, hts, HT, rfl⟩ := hrel
          by_cases hlt : k < n0
          · obtain ⟨ad, rfl, hbb, hc0, _⟩ := (HL0.out.below HB.out).at_ hlt
            have hbit := rem_i64t ⟨m, hm16⟩ ⟨k, by omega⟩
            dsimp only at hbit
            have HSU := Lib.hid (selK_succ A m k)
            have hnx : nameV (A.getD k ByteArray.empty) = true := HNM.out _ (by
              rw [List.getD_eq_getElem?_getD, List.getElem?_eq_getElem (by rw [HAL.out]; exact hlt)]
              exact List.getElem_mem _)
            have HNK : Hid (∀ x ∈ selK A m k, nameV x = true) := Lib.hid (fun x hx => HNM.out x (selK_mem (by rw [HAL.out]; omega) hx))
            have hx8 := name_size hnx
            generalize A.getD k ByteArray.empty = x at *
            clear hbb hnx
            cases hbt : m.testBit k with
            | true =>
              rw [hbt] at hbit HSU
              have HJA := Lib.hid (joinV_append (selK A m k) x)
              by_cases hs : selK A m k = []
              · have HN : Hid (t ++ x = joinV (selK A m (k + 1))) := Lib.hid (by
                  rw [HSU.out, if_pos rfl, HT.out, hs]
                  rw [hs] at HJA
                  rw [HJA.out, if_pos rfl]
                  exact ByteArray.empty_append)
                have hie : t.toList.isEmpty = true := by rw [HT.out, hs, Lib.toList_data]; rfl
                clear hbt HSU HT hs HJA HNK
                go_wp2
                go_roundw
                case rel => exact ⟨k + 1, t ++ x, by omega, by go_num, rfl, by rw [ByteArray.size_append]; omega, HN, by first | rfl | trivial⟩
                case measure => simp [intOf]; omega
              · have HN : Hid (t ++ ⟨#[44]⟩ ++ x = joinV (selK A m (k + 1))) := Lib.hid (by rw [HSU.out, if_pos rfl, HT.out, HJA.out, if_neg hs])
                have hie : t.toList.isEmpty = false := by rw [HT.out]; exact joinV_full hs HNK.out
                have hc1 : (⟨#[44]⟩ : ByteArray).size = 1 := rfl
                have hts2 : (t ++ (⟨#[44]⟩ : ByteArray)).size ≤ 1 + 9 * k := by rw [ByteArray.size_append, hc1]; omega
                clear hbt HSU HT hs HJA HNK
                go_wp2
                go_roundw
                case rel => exact ⟨k + 1, t ++ ⟨#[44]⟩ ++ x, by omega, by go_num, rfl, by rw [ByteArray.size_append]; omega, HN, by first | rfl | trivial⟩
                case measure => simp [intOf]; omega
            | false =>
              rw [hbt] at hbit HSU
              have HN : Hid (t = joinV (selK A m (k + 1))) := Lib.hid (by rw [HSU.out, if_neg (by decide)]; exact HT.out)
              clear hbt HSU HT HNK
              go_wp2
              go_roundw
              case rel => exact ⟨k + 1, t, by omega, by go_num, rfl, by omega, HN, by first | rfl | trivial⟩
              case measure => simp [intOf]; omega
          · have hkn : n0 = k := by omega
            subst hkn
            go_wp2
            go_ret2
            exact ⟨ret_txt (by rw [HV.out, HAL.out, HT.out]), HB.out⟩
  · have HV : Hid (textV A F X g = (ByteArray.empty, sigErr A F X)) := Lib.hid (text_bad h0)
    have hne : (sigErr A F X != 0) = true := by rw [bne_iff_ne]; exact h0
    generalize sigErr A F X = z at *
    clear h0
    go_enter Tryd.func46, Tryd.ntmps46
    go_wp2_with fail
    refine (HC.out _).mono ?_
    rintro e w1 ⟨rfl, hb⟩
    have HB : Hid (Below w.heap.size w w1) := Lib.hid (((Below.refl _ w).alloc (Nat.le_refl _) _).trans (hb.mono (by simp)))
    clear hb HC
    go_wp2
    go_ret2
    exact ⟨ret_txt HV.out, HB.out⟩
end Go.Proofs.YtichhbnpdhfimaaDoor
