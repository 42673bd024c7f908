/- Layer 4: the program's check of a signature. -/
import Derived.Test.YtichhbnpdhfimaaDoorSd
namespace Go.Proofs.YtichhbnpdhfimaaDoor
open Go.RowKit Go.Proofs.Ws
def sel3 {α : Type} (x y z : α) : Nat → α
  | 0 => x
  | 1 => y
  | _ => z
theorem catK_three (A F X : List ByteArray) : catK (sel3 A F X) 3 = A ++ (F ++ X) := by simp [catK, sel3]
theorem Reads.strTake {w : World} {B n k : Nat} {A : Option Addr} {l : List ByteArray} (h : Reads w B 1 A n (ss l)) (hk : k ≤ n) : Reads w B 1 A k (ss (l.take k)) := by
  have hl := h.str_len
  refine ⟨by rw [ss_length]; simp; omega, fun h0 => ?_⟩
  obtain ⟨ad, hA, hb, hc⟩ := h.2 (by omega)
  refine ⟨ad, hA, hb, fun j u hu => hc j u ?_⟩
  unfold ss at hu ⊢
  rw [List.map_take, List.getElem?_take] at hu
  split at hu
  · exact hu
  · cases hu
theorem ck_step {L : List ByteArray} {k : Nat} (hk : k < L.length) (hI : ckFrom (L.take k) (L.drop k) = ckFrom [] L) :
    (nameV (L.getD k ByteArray.empty) = false → ckFrom [] L = 3) ∧ (nameV (L.getD k ByteArray.empty) = true → (resV (L.getD k ByteArray.empty) = true ∨ Lib.containsS (L.take k) (L.getD k ByteArray.empty) = true) → ckFrom [] L = 5) ∧
    (nameV (L.getD k ByteArray.empty) = true → resV (L.getD k ByteArray.empty) = false → Lib.containsS (L.take k) (L.getD k ByteArray.empty) = false → ckFrom (L.take (k + 1)) (L.drop (k + 1)) = ckFrom [] L) := by
  have hd : L.drop k = L.getD k ByteArray.empty :: L.drop (k + 1) := by
    rw [List.getD_eq_getElem?_getD, List.getElem?_eq_getElem hk, List.drop_eq_getElem_cons hk]; rfl
  have ht : L.take (k + 1) = L.take k ++ [L.getD k ByteArray.empty] := by
    rw [List.take_add_one, List.getD_eq_getElem?_getD, List.getElem?_eq_getElem hk]; rfl
  rw [hd, ckFrom, ← ht] at hI
  refine ⟨fun h => ?_, fun h h' => ?_, fun h h' h'' => ?_⟩
  · rw [if_pos h] at hI; exact hI.symm
  · rw [if_neg (by rw [h]; decide), if_pos h'] at hI; exact hI.symm
  · rw [if_neg (by rw [h]; decide), if_neg (by rw [h', h'']; decide)] at hI; exact hI
theorem srcs3 {w : World} {v0 : Value} {a0 a1 a2 : Option Addr} {n0 n1 n2 c0 c1 c2 : Nat} {A F X : List ByteArray} (h0 : SL w w.heap.size a0 n0 c0 A) (h1 : SL w w.heap.size a1 n1 c1 F) (h2 : SL w w.heap.size a2 n2 c2 X) (T T' : TypeId) :
    Srcs ((w.alloc (.cells #[v0, .slice a1 n1 c1, .slice a2 n2 c2] T)).alloc (.cells #[.slice a0 n0 c0, .slice a1 n1 c1, .slice a2 n2 c2] T')) ((w.alloc (.cells #[v0, .slice a1 n1 c1, .slice a2 n2 c2] T)).alloc (.cells #[.slice a0 n0 c0, .slice a1 n1 c1, .slice a2 n2 c2] T')).heap.size (w.heap.size + 1) 3 (sel3 a0 a1 a2) (sel3 n0 n1 n2) (sel3 c0 c1 c2) (sel3 A F X) := by
  have hb : Below w.heap.size w ((w.alloc (.cells #[v0, .slice a1 n1 c1, .slice a2 n2 c2] T)).alloc (.cells #[.slice a0 n0 c0, .slice a1 n1 c1, .slice a2 n2 c2] T')) := ((Below.refl _ w).alloc (Nat.le_refl _) _).alloc (by simp) _
  have hh : ((w.alloc (.cells #[v0, .slice a1 n1 c1, .slice a2 n2 c2] T)).alloc (.cells #[.slice a0 n0 c0, .slice a1 n1 c1, .slice a2 n2 c2] T')).heap[w.heap.size + 1]? = some (.cells #[.slice a0 n0 c0, .slice a1 n1 c1, .slice a2 n2 c2] T' (0, 0)) := by
    have := heap_alloc_new (w.alloc (.cells #[v0, .slice a1 n1 c1, .slice a2 n2 c2] T)) (.cells #[.slice a0 n0 c0, .slice a1 n1 c1, .slice a2 n2 c2] T')
    simpa using this
  have more : ∀ {a : Option Addr} {n c : Nat} {l : List ByteArray}, SL w w.heap.size a n c l → Reads ((w.alloc (.cells #[v0, .slice a1 n1 c1, .slice a2 n2 c2] T)).alloc (.cells #[.slice a0 n0 c0, .slice a1 n1 c1, .slice a2 n2 c2] T')) ((w.alloc (.cells #[v0, .slice a1 n1 c1, .slice a2 n2 c2] T)).alloc (.cells #[.slice a0 n0 c0, .slice a1 n1 c1, .slice a2 n2 c2] T')).heap.size 1 a n (ss l) := fun h => ((h.below hb).more hb.size).1
  intro k hk
  match k, hk with
  | 0, _ => exact ⟨by rw [Lib.cell_of_heap hh]; rfl, more h0, h0.2.1, by have := h0.2.2.1; simp only [sel3]; omega⟩
  | 1, _ => exact ⟨by rw [Lib.cell_of_heap hh]; rfl, more h1, h1.2.1, by have := h1.2.2.1; simp only [sel3]; omega⟩
  | 2, _ => exact ⟨by rw [Lib.cell_of_heap hh]; rfl, more h2, h2.2.1, by have := h2.2.2.1; simp only [sel3]; omega⟩
  | k + 3, h => omega
set_option maxRecDepth 100000 in
set_option maxHeartbeats 4000000 in
theorem pSigCheck_any (v : Value) (A F X : List ByteArray) (w : World) (hS : SigR w w.heap.size v A F X) (hE : EnvS w) :
    Calls Tryd.prog 27 #[v] w fun e w' => e = .returned (.int .i64 (sigErr A F X)) ∧ Below w.heap.size w w' := by
  obtain ⟨a0, n0, c0, a1, n1, c1, a2, n2, c2, rfl, h0, h1, h2⟩ := hS
  unfold sv
  have l0 := h0.1.str_len
  have l1 := h1.1.str_len
  have l2 := h2.1.str_len
  have m0 := h0.2.2.1
  have m1 := h1.2.2.1
  have m2 := h2.2.2.1
  by_cases b0 : 4 < n0
  · have HV : Hid (sigErr A F X = 8) := Lib.hid (by unfold sigErr; rw [if_neg (by omega)])
    have d0 : decide ((4 : Int) < (n0 : Int)) = true := by simp; omega
    clear h0 h1 h2 l0 l1 l2
    go_enter Tryd.func27, Tryd.ntmps27
    go_wp2
    go_ret
    exact ⟨ret_i64 HV.out.symm, (Below.refl _ w).alloc (Nat.le_refl _) _⟩
  · by_cases b1 : 8 < n1
    · have HV : Hid (sigErr A F X = 8) := Lib.hid (by unfold sigErr; rw [if_neg (by omega)])
      have d0 : decide ((4 : Int) < (n0 : Int)) = false := by simp; omega
      have d1 : decide ((8 : Int) < (n1 : Int)) = true := by simp; omega
      clear h0 h1 h2 l0 l1 l2
      go_enter Tryd.func27, Tryd.ntmps27
      go_wp2
      go_ret
      exact ⟨ret_i64 HV.out.symm, (Below.refl _ w).alloc (Nat.le_refl _) _⟩
    · by_cases b2 : 8 < n2
      · have HV : Hid (sigErr A F X = 8) := Lib.hid (by unfold sigErr; rw [if_neg (by omega)])
        have d0 : decide ((4 : Int) < (n0 : Int)) = false := by simp; omega
        have d1 : decide ((8 : Int) < (n1 : Int)) = false := by simp; omega
        have d2 : decide ((8 : Int) < (n2 : Int)) = true := by simp; omega
        clear h0 h1 h2 l0 l1 l2
        go_enter Tryd.func27, Tryd.ntmps27
        go_wp2
        go_ret
        exact ⟨ret_i64 HV.out.symm, (Below.refl _ w).alloc (Nat.le_refl _) _⟩
      · obtain ⟨L, hL⟩ : ∃ L, L = A ++ (F ++ X) := ⟨_, rfl⟩
        have HV : Hid (sigErr A F X = ckFrom [] L) := Lib.hid (by unfold sigErr; rw [if_pos (by omega), hL])
        have HSZ : Hid (∀ x ∈ L, x.size ≤ maxLen) := Lib.hid (fun x hx => by
          rw [hL] at hx
          rcases List.mem_append.1 hx with hx | hx
          · exact h0.2.2.2.1 x hx
          · rcases List.mem_append.1 hx with hx | hx
            · exact h1.2.2.2.1 x hx
            · exact h2.2.2.2.1 x hx)
        have d0 : decide ((4 : Int) < (n0 : Int)) = false := by simp; omega
        have d1 : decide ((8 : Int) < (n1 : Int)) = false := by simp; omega
        have d2 : decide ((8 : Int) < (n2 : Int)) = false := by simp; omega
        have HC := Lib.hid (fun T T' => pConcat_any (w.heap.size + 1) 3 _ _ _ _ _ (by simp) (by omega) (srcs3 (v0 := .slice a0 n0 c0) h0 h1 h2 T T'))
        have HLL : Hid (L.length ≤ 60) := Lib.hid (by rw [hL]; simp; omega)
        have HE := Lib.hid hE
        rw [catK_three, ← hL] at HC
        clear h0 h1 h2 l0 l1 l2 hL hE
        go_enter Tryd.func27, Tryd.ntmps27
        go_wp2_with fail
        refine ((HC.out _ _)).mono ?_
        rintro e w1 ⟨A1, C1, rfl, hn1, hc1, hR1, hb1⟩
        have HB1 : Hid (Below w.heap.size w w1) := Lib.hid ((((Below.refl _ w).alloc (Nat.le_refl _) _).alloc (by simp) _).trans (hb1.mono (by simp; omega)))
        have HR1 := Lib.hid hR1
        have hLL := HLL.out
        clear hb1 HC hR1
        generalize hN : L.length = N at *
        have HNL := Lib.hid hN
        clear hN
        go_wp2
        go_loopw [32] (fun i wr => ∃ k : Nat, k ≤ N ∧ i = .int .i64 k ∧ Hid (ckFrom (L.take k) (L.drop k) = ckFrom [] L) ∧ w1 = wr) (fun i _ => N - (intOf i).toNat)
        case atStart => exact ⟨0, Nat.zero_le _, rfl, Lib.hid (by rw [List.take_zero, List.drop_zero]), rfl⟩
        case round =>
          obtain ⟨k, hk, rfl, HI, rfl⟩ := hrel
          by_cases hlt : k < N
          · obtain ⟨ad, hA1, hbb, hc⟩ := HR1.out.str_at hlt
            subst hA1
            have HST := Lib.hid (ck_step (L := L) (k := k) (by rw [HNL.out]; exact hlt) HI.out)
            have hsz : (L.getD k ByteArray.empty).size ≤ maxLen := by
              rw [List.getD_eq_getElem?_getD, List.getElem?_eq_getElem (by rw [HNL.out]; exact hlt)]
              exact HSZ.out _ (List.getElem_mem _)
            have HNM := Lib.hid (fun W => pIsName_any (L.getD k ByteArray.empty) W hsz)
            have HRS := Lib.hid (fun W (hW : EnvS W) => pReserved_any (L.getD k ByteArray.empty) W hW)
            have HCN := Lib.hid (pContains_any (L.take k) (L.getD k ByteArray.empty) (some ad) k C1 _ w1 (HR1.out.strTake (k := k) hk) (by unfold maxLen; omega))
            have HE1 := Lib.hid (HE.out.below HB1.out)
            generalize L.getD k ByteArray.empty = x at *
            cases hn : nameV x with
            | false =>
              have HF := Lib.hid (HST.out.1 hn)
              rw [hn] at HNM
              clear hn HST HI
              go_wp2_with fail
              refine (HNM.out _).mono ?_
              rintro e w2 ⟨rfl, rfl⟩
              go_wp2
              go_ret
              exact ⟨ret_i64 (by rw [HV.out, HF.out]), HB1.out⟩
            | true =>
              rw [hn] at HNM
              cases hr : resV x with
              | true =>
                have HF := Lib.hid (HST.out.2.1 hn (.inl hr))
                rw [hr] at HRS
                clear hn hr HST HI
                go_wp2_with (first | (go_at_call 29; refine (HNM.out _).mono ?_; rintro e w2 ⟨rfl, rfl⟩) | (go_at_call 31; refine (HRS.out _ HE1.out).mono ?_; rintro e w2 ⟨rfl, rfl⟩))
                go_ret
                exact ⟨ret_i64 (by rw [HV.out, HF.out]), HB1.out⟩
              | false =>
                rw [hr] at HRS
                cases hcn : Lib.containsS (L.take k) x with
                | true =>
                  have HF := Lib.hid (HST.out.2.1 hn (.inr hcn))
                  rw [hcn] at HCN
                  clear hn hr hcn HST HI
                  go_wp2_with (first | (go_at_call 29; refine (HNM.out _).mono ?_; rintro e w2 ⟨rfl, rfl⟩) | (go_at_call 31; refine (HRS.out _ HE1.out).mono ?_; rintro e w2 ⟨rfl, rfl⟩) | (go_at_call 61; refine (HCN.out).mono ?_; rintro e w2 ⟨rfl, rfl⟩))
                  go_ret
                  exact ⟨ret_i64 (by rw [HV.out, HF.out]), HB1.out⟩
                | false =>
                  have HF := Lib.hid (HST.out.2.2 hn hr hcn)
                  rw [hcn] at HCN
                  clear hn hr hcn HST HI
                  go_wp2_with (first | (go_at_call 29; refine (HNM.out _).mono ?_; rintro e w2 ⟨rfl, rfl⟩) | (go_at_call 31; refine (HRS.out _ HE1.out).mono ?_; rintro e w2 ⟨rfl, rfl⟩) | (go_at_call 61; refine (HCN.out).mono ?_; rintro e w2 ⟨rfl, rfl⟩))
                  go_roundw
                  case rel => exact ⟨k + 1, by omega, by go_num, HF, by first | rfl | trivial⟩
                  case measure => simp [intOf]; omega
          · have hkn : N = k := by omega
            subst hkn
            have HF : Hid (ckFrom [] L = 0) := Lib.hid (by
              have := HI.out
              rw [← HNL.out, List.drop_length, ckFrom] at this
              exact this.symm)
            clear HI
            go_wp2
            go_ret
            exact ⟨ret_i64 (by rw [HV.out, HF.out]), HB1.out⟩
end Go.Proofs.YtichhbnpdhfimaaDoor
