/- Layer 4: the mask of a group, by the program. -/
import Derived.Test.YtichhbnpdhfimaaDoorSh
import Derived.Test.YtichhbnpdhfimaaDoorSn
namespace Go.Proofs.YtichhbnpdhfimaaDoor
open Go.RowKit Go.Proofs.Ws
theorem grp_step {A l : List ByteArray} {k m : Nat} (hk : k < l.length) (hI : grp A (l.drop k) m = grp A l 0) :
    (l.getD k ByteArray.empty ∉ A → grp A l 0 = (0, 6)) ∧ (l.getD k ByteArray.empty ∈ A → m.testBit (ix A (l.getD k ByteArray.empty)) = true → grp A l 0 = (0, 7)) ∧
    (l.getD k ByteArray.empty ∈ A → m.testBit (ix A (l.getD k ByteArray.empty)) = false → grp A (l.drop (k + 1)) (m ||| 2 ^ ix A (l.getD k ByteArray.empty)) = grp A l 0) := by
  have hd : l.drop k = l.getD k ByteArray.empty :: l.drop (k + 1) := by
    rw [List.getD_eq_getElem?_getD, List.getElem?_eq_getElem hk, List.drop_eq_getElem_cons hk]; rfl
  rw [hd, grp] at hI
  refine ⟨fun h => ?_, fun h h' => ?_, fun h h' => ?_⟩
  · rw [idx_miss h, if_neg (by decide)] at hI; exact hI.symm
  · rw [if_pos (by have := (ix_lt h).2; omega)] at hI
    rw [← hI]
    show (if m.testBit (ix A (l.getD k ByteArray.empty)) = true then ((0 : Nat), (7 : Int)) else grp A (l.drop (k + 1)) (m ||| 2 ^ ix A (l.getD k ByteArray.empty))) = (0, 7)
    rw [if_pos h']
  · rw [if_pos (by have := (ix_lt h).2; omega)] at hI
    rw [← hI]
    show _ = (if m.testBit (ix A (l.getD k ByteArray.empty)) = true then ((0 : Nat), (7 : Int)) else grp A (l.drop (k + 1)) (m ||| 2 ^ ix A (l.getD k ByteArray.empty)))
    rw [if_neg (by rw [h']; decide)]
theorem ret_grp {p : Nat × Int} {m : Nat} {z : Int} (h : p = (m, z)) : Ending.returned (.tuple #[.int .i64 (m : Int), .int .i64 z]) = .returned (.tuple #[.int .i64 (p.1 : Nat), .int .i64 p.2]) := by rw [h]
theorem shr_i64 (m j : Nat) (hj : j < 64) : ((m : Int) / 2 ^ (min j 64)) = ((m / 2 ^ j : Nat) : Int) := by
  rw [Nat.min_eq_left (by omega)]; simp
theorem bit_i64 : ∀ m : Fin 16, ∀ j : Fin 4, (bits BinOp.and IntKind.i64 ((m.1 : Int) / 2 ^ j.1) 1 == 1) = m.1.testBit j.1 := by decide
theorem or_i64 : ∀ m : Fin 16, ∀ j : Fin 4, bits BinOp.or IntKind.i64 (m.1 : Int) (wrap64 (2 ^ j.1)) = ((m.1 ||| 2 ^ j.1 : Nat) : Int) := by decide +kernel
theorem group_ok {A F X l : List ByteArray} (h : sigErr A F X = 0) (hl : l ≠ []) : groupV A F X l = grp A l 0 := by unfold groupV; rw [if_pos h, if_neg hl]
theorem group_bad {A F X l : List ByteArray} (h : sigErr A F X ≠ 0) : groupV A F X l = (0, sigErr A F X) := by unfold groupV; rw [if_neg h]
theorem group_nil {A F X : List ByteArray} (h : sigErr A F X = 0) : groupV A F X [] = (0, 1) := by unfold groupV; rw [if_pos h, if_pos rfl]
theorem boxed {w : World} {a0 a1 a2 : Option Addr} {n0 c0 n1 c1 n2 c2 : Nat} {T : TypeId} :
    ∀ wr, Below (w.heap.size + 1) (w.alloc (.cells #[.slice a0 n0 c0, .slice a1 n1 c1, .slice a2 n2 c2] T)) wr → wr.cell? ⟨w.heap.size, 0, none⟩ = some (.slice a0 n0 c0) ∧ wr.cell? ⟨w.heap.size, 1, none⟩ = some (.slice a1 n1 c1) ∧ wr.cell? ⟨w.heap.size, 2, none⟩ = some (.slice a2 n2 c2) := fun wr hb => by
  have hh := heap_alloc_new w (.cells #[.slice a0 n0 c0, .slice a1 n1 c1, .slice a2 n2 c2] T)
  refine ⟨(hb.cell (p := ⟨w.heap.size, 0, none⟩) (by simp)).trans ?_, (hb.cell (p := ⟨w.heap.size, 1, none⟩) (by simp)).trans ?_, (hb.cell (p := ⟨w.heap.size, 2, none⟩) (by simp)).trans ?_⟩ <;> (rw [Lib.cell_of_heap hh]; rfl)
set_option maxRecDepth 100000 in
set_option maxHeartbeats 4000000 in
theorem pGroup_any (v : Value) (A F X l : List ByteArray) (a : Option Addr) (n c : Nat) (w : World) (hS : SigR w w.heap.size v A F X) (hR : Reads w w.heap.size 1 a n (ss l)) (hm : n ≤ maxLen) (hE : EnvS w) :
    Calls Tryd.prog 43 #[v, .slice a n c] w fun e w' => e = .returned (.tuple #[.int .i64 ((groupV A F X l).1 : Nat), .int .i64 (groupV A F X l).2]) ∧ Below w.heap.size w w' := by
  unfold maxLen at hm
  have HC := Lib.hid (fun o => pSigCheck_any v A F X (w.alloc o) (hS.on ((Below.refl _ w).alloc (Nat.le_refl _) o)) (hE.below ((Below.refl _ w).alloc (Nat.le_refl _) o)))
  obtain ⟨a0, n0, c0, a1, n1, c1, a2, n2, c2, rfl, h0, h1, h2⟩ := hS
  have HL0 := Lib.hid h0
  have hm0 : n0 ≤ 20 := h0.2.2.1
  unfold sv at HC ⊢
  have HBX := Lib.hid (@boxed w a0 a1 a2 n0 c0 n1 c1 n2 c2 39)
  have HR := Lib.hid hR
  have HLN := Lib.hid hR.str_len
  clear h0 h1 h2 hR hE
  by_cases h0 : sigErr A F X = 0
  · have hA4 : A.length ≤ 4 := (sigErr_ok h0).1
    have HA4 := Lib.hid hA4
    by_cases hl : n = 0
    · have HV : Hid (groupV A F X l = (0, 1)) := Lib.hid (by
        have : l = [] := List.eq_nil_of_length_eq_zero (by rw [HLN.out, hl])
        rw [this]; exact group_nil h0)
      rw [h0] at HC
      subst hl
      clear h0 hA4
      go_enter Tryd.func43, Tryd.ntmps43
      go_wp2_with fail
      refine (HC.out _).mono ?_
      rintro e w1 ⟨rfl, hb⟩
      have HB : Hid (Below w.heap.size w w1) := Lib.hid (((Below.refl _ w).alloc (Nat.le_refl _) _).trans (hb.mono (by simp)))
      clear hb HC
      go_wp2
      go_ret2
      exact ⟨ret_grp HV.out, HB.out⟩
    · have HV : Hid (groupV A F X l = grp A l 0) := Lib.hid (group_ok h0 (fun e => hl (by rw [← HLN.out, e]; rfl)))
      rw [h0] at HC
      have hne : ((n : Int) == 0) = false := by simp; omega
      clear h0 hA4
      go_enter Tryd.func43, Tryd.ntmps43
      go_wp2_with fail
      refine (HC.out _).mono ?_
      rintro e w1 ⟨rfl, hb⟩
      have HB : Hid (Below w.heap.size w w1) := Lib.hid (((Below.refl _ w).alloc (Nat.le_refl _) _).trans (hb.mono (by simp)))
      have hcell := (HBX.out w1 (hb.mono (by simp))).1
      clear hb HC
      go_wp2
      go_loopw [7, 21] (fun mv i wr => ∃ k m : Nat, k ≤ n ∧ i = .int .i64 k ∧ mv = .int .i64 m ∧ m < 16 ∧ Hid (grp A (l.drop k) m = grp A l 0 ∧ m < 2 ^ A.length) ∧ w1 = wr) (fun _ i _ => n - (intOf i).toNat)
      case atStart => exact ⟨0, 0, Nat.zero_le _, rfl, rfl, by omega, Lib.hid ⟨by rw [List.drop_zero], Nat.two_pow_pos _⟩, rfl⟩
      case round =>
        obtain ⟨k, m, hk, rfl, rfl, hm16, HI, rfl⟩ := hrel
        by_cases hlt : k < n
        · obtain ⟨ad, rfl, hbb, hc0⟩ := (HR.out.below HB.out).str_at hlt
          have HST := Lib.hid (grp_step (A := A) (l := l) (k := k) (m := m) (by rw [HLN.out]; exact hlt) HI.out.1)
          generalize l.getD k ByteArray.empty = x at *
          have HX := Lib.hid (pIndex_any A x a0 n0 c0 _ w1 (HL0.out.1.below HB.out) (by unfold maxLen; omega))
          by_cases hx : x ∈ A
          · obtain ⟨hj, hz⟩ := ix_lt hx
            rw [hz] at HX
            have hj4 : ix A x < 4 := by have := HA4.out; omega
            have hbit := bit_i64 ⟨m, hm16⟩ ⟨ix A x, hj4⟩
            have hor := or_i64 ⟨m, hm16⟩ ⟨ix A x, hj4⟩
            have HM : Hid (m ||| 2 ^ ix A x < 2 ^ A.length) := Lib.hid (Nat.or_lt_two_pow HI.out.2 (Nat.pow_lt_pow_right (by decide) hj))
            have hm2 : m ||| 2 ^ ix A x < 16 := Nat.or_lt_two_pow (n := 4) hm16 (Nat.pow_lt_pow_right (by decide) hj4)
            dsimp only at hbit hor
            cases hb : m.testBit (ix A x) with
            | true =>
              have HF := Lib.hid (HST.out.2.1 hx hb)
              rw [hb] at hbit
              generalize ix A x = j at *
              clear hb HST HI hx hz HM hm2 hor hj
              go_wp2_with (first | (go_at_call 70; refine (HX.out).mono ?_; rintro e w2 ⟨rfl, rfl⟩))
              go_ret2
              exact ⟨ret_grp (m := 0) (by rw [HV.out, HF.out]), HB.out⟩
            | false =>
              have HF := Lib.hid (HST.out.2.2 hx hb)
              rw [hb] at hbit
              generalize ix A x = j at *
              clear hb HST HI hx hz hj
              go_wp2_with (first | (go_at_call 70; refine (HX.out).mono ?_; rintro e w2 ⟨rfl, rfl⟩))
              try simp only [hor]
              go_roundw
              case rel => exact ⟨k + 1, m ||| 2 ^ j, by omega, by go_num, by first | rfl | rw [hor], hm2, Lib.hid ⟨HF.out, HM.out⟩, by first | rfl | trivial⟩
              case measure => simp [intOf]; omega
          · have HF := Lib.hid (HST.out.1 hx)
            rw [idx_miss hx] at HX
            clear HST HI hx
            go_wp2_with (first | (go_at_call 70; refine (HX.out).mono ?_; rintro e w2 ⟨rfl, rfl⟩))
            go_ret2
            exact ⟨ret_grp (m := 0) (by rw [HV.out, HF.out]), HB.out⟩
        · have hkn : n = k := by omega
          subst hkn
          have HF : Hid (grp A l 0 = (m, 0)) := Lib.hid (by
            have := HI.out.1
            rw [← HLN.out, List.drop_length, grp] at this
            exact this.symm)
          clear HI
          go_wp2
          go_ret2
          exact ⟨ret_grp (by rw [HV.out, HF.out]), HB.out⟩
  · have HV : Hid (groupV A F X l = (0, sigErr A F X)) := Lib.hid (group_bad h0)
    have hne : (sigErr A F X != 0) = true := by rw [bne_iff_ne]; exact h0
    generalize sigErr A F X = z at *
    clear h0
    go_enter Tryd.func43, Tryd.ntmps43
    go_wp2_with fail
    refine (HC.out _).mono ?_
    rintro e w1 ⟨rfl, hb⟩
    have HB : Hid (Below w.heap.size w w1) := Lib.hid (((Below.refl _ w).alloc (Nat.le_refl _) _).trans (hb.mono (by simp)))
    clear hb HC
    go_wp2
    go_ret2
    exact ⟨ret_grp (m := 0) HV.out, HB.out⟩
end Go.Proofs.YtichhbnpdhfimaaDoor
