/- Layer 4: all names of a signature, and its check, by the reference. -/
import Derived.Test.YtichhbnpdhfimaaDoorSe
namespace Go.Proofs.YtichhbnpdhfimaaDoor
open Go.RowKit Go.Proofs.Ws
theorem ss_take (P l : List ByteArray) (k : Nat) (hk : k < l.length) : ss (P ++ l.take (k + 1)) = ss (P ++ l.take k) ++ [.string (l.getD k ByteArray.empty)] := by
  have e : l.take (k + 1) = l.take k ++ [l.getD k ByteArray.empty] := by
    rw [List.take_add_one, List.getD_eq_getElem?_getD, List.getElem?_eq_getElem hk]; rfl
  rw [e, ← List.append_assoc, ss_append]
  rfl
set_option maxRecDepth 100000 in
set_option maxHeartbeats 4000000 in
theorem pRefAll_any (v : Value) (A F X : List ByteArray) (w : World) (hS : SigR w w.heap.size v A F X) :
    Calls Tryd.prog 62 #[v] w fun e w' => ∃ A' c', e = .returned (.slice A' (A ++ (F ++ X)).length c') ∧ Reads w' w'.heap.size 1 A' (A ++ (F ++ X)).length (ss (A ++ (F ++ X))) ∧ Below w.heap.size w w' := by
  obtain ⟨a0, n0, c0, a1, n1, c1, a2, n2, c2, rfl, h0, h1, h2⟩ := hS
  unfold sv
  have H0 := Lib.hid h0
  have H1 := Lib.hid h1
  have H2 := Lib.hid h2
  have HPL0 : Hid (([] : List ByteArray).length ≤ 100) := Lib.hid (by simp)
  have HPL1 : Hid (A.length ≤ 100) := Lib.hid (by have := h0.1.str_len; have := h0.2.2.1; omega)
  have HPL2 : Hid ((A ++ F).length ≤ 100) := Lib.hid (by have := h0.1.str_len; have := h0.2.2.1; have := h1.1.str_len; have := h1.2.2.1; rw [List.length_append]; omega)
  obtain ⟨i0, hi, hz0, hz1, hz2⟩ := info_parts Tryd.infoS
  obtain ⟨w0, hw0⟩ : ∃ w0, w0 = w.alloc (.cells #[.slice a0 n0 c0, .slice a1 n1 c1, .slice a2 n2 c2] 39) := ⟨_, rfl⟩
  have HBW : Hid (Below w.heap.size w w0) := Lib.hid (by rw [hw0]; exact (Below.refl _ w).alloc (Nat.le_refl _) _)
  have HW0 : Hid (w0.heap.size = w.heap.size + 1) := Lib.hid (by rw [hw0]; simp)
  have HBX : Hid (∀ wr, Below (w.heap.size + 1) w0 wr → wr.cell? ⟨w.heap.size, 0, none⟩ = some (.slice a0 n0 c0) ∧ wr.cell? ⟨w.heap.size, 1, none⟩ = some (.slice a1 n1 c1) ∧ wr.cell? ⟨w.heap.size, 2, none⟩ = some (.slice a2 n2 c2)) := Lib.hid (fun wr hb => by
    have hh := heap_alloc_new w (.cells #[.slice a0 n0 c0, .slice a1 n1 c1, .slice a2 n2 c2] 39)
    rw [← hw0] at hh
    refine ⟨(hb.cell (p := ⟨w.heap.size, 0, none⟩) (by simp)).trans ?_, (hb.cell (p := ⟨w.heap.size, 1, none⟩) (by simp)).trans ?_, (hb.cell (p := ⟨w.heap.size, 2, none⟩) (by simp)).trans ?_⟩ <;> (rw [Lib.cell_of_heap hh]; rfl))
  clear h0 h1 h2
  go_enter Tryd.func62, Tryd.ntmps62
  go_wp2_with (simp only [← hw0])
  go_loopw [3, 4] (fun v i wr => ∃ (k q : Nat) (xs : List Value), k ≤ n0 ∧ i = .int .i64 k ∧ Hid (q = (([] : List ByteArray)).length + k ∧ xs = ss (([] : List ByteArray) ++ A.take k)) ∧ wr.ownsRow (w.heap.size + 1) 9 1 v q xs ∧ Below (w.heap.size + 1) w0 wr) (fun _ i _ => n0 - (intOf i).toNat)
  case atStart => exact ⟨0, 0, [], Nat.zero_le _, rfl, Lib.hid ⟨rfl, rfl⟩, World.ownsRow_nil _ _ _ _, Below.refl _ _⟩
  case round =>
    skip
    obtain ⟨k, q, xs, hk, rfl, HO, hown, hb⟩ := hrel
    have hcb := (HBX.out wr hb).1
    have hsz : w.heap.size + 1 ≤ wr.heap.size := by have := hb.size; have := HW0.out; omega
    by_cases hlt : k < n0
    · obtain ⟨ad, hA, hbb, hc0, _⟩ := H0.out.at_ hlt
      subst hA
      have hc := (hb.cell (p := ad.add k) (by rw [block_of_add]; omega)).trans ((HBW.out.cell (p := ad.add k) (by rw [block_of_add]; exact hbb)).trans hc0)
      have HX : Hid (q + 1 = (([] : List ByteArray)).length + (k + 1) ∧ xs ++ [.string (A.getD k ByteArray.empty)] = ss (([] : List ByteArray) ++ A.take (k + 1))) := Lib.hid ⟨by have := HO.out.1; omega, by rw [HO.out.2]; exact (ss_take _ _ _ (by rw [H0.out.1.str_len]; exact hlt)).symm⟩
      generalize A.getD k ByteArray.empty = x at *
      have hq : q ≤ 120 := by have := HO.out.1; have := HPL0.out; have := H0.out.2.2.1; omega
      have hm : n0 ≤ 20 := H0.out.2.2.1
      clear hc0 hbb HO
      go_wp2_with (at_builtin; refine wpList_append_own _ rfl _ _ 37 rfl (w.heap.size + 1) 9 i0 (.string ByteArray.empty) 1 16 Tryd.underlying37 hi hz0 hz1 hz2 rfl (by decide) _ _ _ rfl (hown.alloc _) ⟨wr.heap.size, 0, none⟩ 1 1 [.string x] rfl rfl ?c1 ?c2 ?c3 ?c4 ?c5 ?_)
      case c1 =>
        intro j u hj
        match j, hj with
        | 0, hj => simp at hj; subst hj; simp [Addr.add]
      case c2 => intro u hu; simp at hu; subst hu; rfl
      case c3 => unfold maxLen; omega
      case c4 => omega
      case c5 => simp; omega
      intro v' w3 hown' hgrow _
      have hb3 : Below (w.heap.size + 1) w0 w3 := (hb.alloc hsz _).grown hgrow (by simp; omega) (fun j hj => ((hown.alloc (.cells #[.string x] 9)).lt j hj).1)
      clear hgrow hown hb
      go_wp2
      go_roundw
      case rel => exact ⟨k + 1, q + 1, _, by omega, by go_num, HX, hown', hb3⟩
      case measure => simp [intOf]; omega
    · have hkn : n0 = k := by omega
      subst hkn
      have HE0 : Hid (q = (([] : List ByteArray) ++ A).length ∧ xs = ss (([] : List ByteArray) ++ A)) := Lib.hid (by
        have hl := H0.out.1.str_len
        have h1 := HO.out.1
        have h2 := HO.out.2
        rw [← hl, List.take_length] at h2
        exact ⟨by rw [List.length_append]; omega, h2⟩)
      clear HO
      go_wp2
      go_loopw [3, 5] (fun v i wr => ∃ (k q : Nat) (xs : List Value), k ≤ n1 ∧ i = .int .i64 k ∧ Hid (q = (A).length + k ∧ xs = ss (A ++ F.take k)) ∧ wr.ownsRow (w.heap.size + 1) 9 1 v q xs ∧ Below (w.heap.size + 1) w0 wr) (fun _ i _ => n1 - (intOf i).toNat)
      case atStart => exact ⟨0, q, xs, Nat.zero_le _, rfl, Lib.hid ⟨HE0.out.1, by rw [List.take_zero, List.append_nil]; exact HE0.out.2⟩, hown, hb⟩
      case round =>
        clear hown hb
        obtain ⟨k, q, xs, hk, rfl, HO, hown, hb⟩ := hrel
        have hcb := (HBX.out wr hb).2.1
        have hsz : w.heap.size + 1 ≤ wr.heap.size := by have := hb.size; have := HW0.out; omega
        by_cases hlt : k < n1
        · obtain ⟨ad, hA, hbb, hc0, _⟩ := H1.out.at_ hlt
          subst hA
          have hc := (hb.cell (p := ad.add k) (by rw [block_of_add]; omega)).trans ((HBW.out.cell (p := ad.add k) (by rw [block_of_add]; exact hbb)).trans hc0)
          have HX : Hid (q + 1 = (A).length + (k + 1) ∧ xs ++ [.string (F.getD k ByteArray.empty)] = ss (A ++ F.take (k + 1))) := Lib.hid ⟨by have := HO.out.1; omega, by rw [HO.out.2]; exact (ss_take _ _ _ (by rw [H1.out.1.str_len]; exact hlt)).symm⟩
          generalize F.getD k ByteArray.empty = x at *
          have hq : q ≤ 120 := by have := HO.out.1; have := HPL1.out; have := H1.out.2.2.1; omega
          have hm : n1 ≤ 20 := H1.out.2.2.1
          clear hc0 hbb HO
          go_wp2_with (at_builtin; refine wpList_append_own _ rfl _ _ 37 rfl (w.heap.size + 1) 9 i0 (.string ByteArray.empty) 1 16 Tryd.underlying37 hi hz0 hz1 hz2 rfl (by decide) _ _ _ rfl (hown.alloc _) ⟨wr.heap.size, 0, none⟩ 1 1 [.string x] rfl rfl ?c1 ?c2 ?c3 ?c4 ?c5 ?_)
          case c1 =>
            intro j u hj
            match j, hj with
            | 0, hj => simp at hj; subst hj; simp [Addr.add]
          case c2 => intro u hu; simp at hu; subst hu; rfl
          case c3 => unfold maxLen; omega
          case c4 => omega
          case c5 => simp; omega
          intro v' w3 hown' hgrow _
          have hb3 : Below (w.heap.size + 1) w0 w3 := (hb.alloc hsz _).grown hgrow (by simp; omega) (fun j hj => ((hown.alloc (.cells #[.string x] 9)).lt j hj).1)
          clear hgrow hown hb
          go_wp2
          go_roundw
          case rel => exact ⟨k + 1, q + 1, _, by omega, by go_num, HX, hown', hb3⟩
          case measure => simp [intOf]; omega
        · have hkn : n1 = k := by omega
          subst hkn
          have HE1 : Hid (q = (A ++ F).length ∧ xs = ss (A ++ F)) := Lib.hid (by
            have hl := H1.out.1.str_len
            have h1 := HO.out.1
            have h2 := HO.out.2
            rw [← hl, List.take_length] at h2
            exact ⟨by rw [List.length_append]; omega, h2⟩)
          clear HO
          go_wp2
          go_loopw [3, 6] (fun v i wr => ∃ (k q : Nat) (xs : List Value), k ≤ n2 ∧ i = .int .i64 k ∧ Hid (q = ((A ++ F)).length + k ∧ xs = ss ((A ++ F) ++ X.take k)) ∧ wr.ownsRow (w.heap.size + 1) 9 1 v q xs ∧ Below (w.heap.size + 1) w0 wr) (fun _ i _ => n2 - (intOf i).toNat)
          case atStart => exact ⟨0, q, xs, Nat.zero_le _, rfl, Lib.hid ⟨HE1.out.1, by rw [List.take_zero, List.append_nil]; exact HE1.out.2⟩, hown, hb⟩
          case round =>
            clear hown hb
            obtain ⟨k, q, xs, hk, rfl, HO, hown, hb⟩ := hrel
            have hcb := (HBX.out wr hb).2.2
            have hsz : w.heap.size + 1 ≤ wr.heap.size := by have := hb.size; have := HW0.out; omega
            by_cases hlt : k < n2
            · obtain ⟨ad, hA, hbb, hc0, _⟩ := H2.out.at_ hlt
              subst hA
              have hc := (hb.cell (p := ad.add k) (by rw [block_of_add]; omega)).trans ((HBW.out.cell (p := ad.add k) (by rw [block_of_add]; exact hbb)).trans hc0)
              have HX : Hid (q + 1 = ((A ++ F)).length + (k + 1) ∧ xs ++ [.string (X.getD k ByteArray.empty)] = ss ((A ++ F) ++ X.take (k + 1))) := Lib.hid ⟨by have := HO.out.1; omega, by rw [HO.out.2]; exact (ss_take _ _ _ (by rw [H2.out.1.str_len]; exact hlt)).symm⟩
              generalize X.getD k ByteArray.empty = x at *
              have hq : q ≤ 120 := by have := HO.out.1; have := HPL2.out; have := H2.out.2.2.1; omega
              have hm : n2 ≤ 20 := H2.out.2.2.1
              clear hc0 hbb HO
              go_wp2_with (at_builtin; refine wpList_append_own _ rfl _ _ 37 rfl (w.heap.size + 1) 9 i0 (.string ByteArray.empty) 1 16 Tryd.underlying37 hi hz0 hz1 hz2 rfl (by decide) _ _ _ rfl (hown.alloc _) ⟨wr.heap.size, 0, none⟩ 1 1 [.string x] rfl rfl ?c1 ?c2 ?c3 ?c4 ?c5 ?_)
              case c1 =>
                intro j u hj
                match j, hj with
                | 0, hj => simp at hj; subst hj; simp [Addr.add]
              case c2 => intro u hu; simp at hu; subst hu; rfl
              case c3 => unfold maxLen; omega
              case c4 => omega
              case c5 => simp; omega
              intro v' w3 hown' hgrow _
              have hb3 : Below (w.heap.size + 1) w0 w3 := (hb.alloc hsz _).grown hgrow (by simp; omega) (fun j hj => ((hown.alloc (.cells #[.string x] 9)).lt j hj).1)
              clear hgrow hown hb
              go_wp2
              go_roundw
              case rel => exact ⟨k + 1, q + 1, _, by omega, by go_num, HX, hown', hb3⟩
              case measure => simp [intOf]; omega
            · have hkn : n2 = k := by omega
              subst hkn
              have HE2 : Hid (q = ((A ++ F) ++ X).length ∧ xs = ss ((A ++ F) ++ X)) := Lib.hid (by
                have hl := H2.out.1.str_len
                have h1 := HO.out.1
                have h2 := HO.out.2
                rw [← hl, List.take_length] at h2
                exact ⟨by rw [List.length_append]; omega, h2⟩)
              clear HO
              obtain ⟨A', c', rfl, hnc, hcm, _, hRd⟩ := own_reads2 hown
              have HRD := Lib.hid hRd
              have HB : Hid (Below w.heap.size w wr) := Lib.hid (HBW.out.trans (hb.mono (by omega)))
              clear hRd hown hb
              go_wp2
              go_ret
              obtain ⟨rfl, rfl⟩ := HE2.out
              have e := List.append_assoc A F X
              exact ⟨A', c', by first | (rw [← e]; done) | simp, by rw [← e]; exact HRD.out, HB.out⟩
end Go.Proofs.YtichhbnpdhfimaaDoor
