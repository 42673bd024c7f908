/- Layer 4: the parts of a text, by the reference. -/
import Derived.Test.YtichhbnpdhfimaaDoorSp
import Derived.Laws.Strings2
namespace Go.Proofs.YtichhbnpdhfimaaDoor
open Go.RowKit Go.Proofs.Ws
def mkS (l : List UInt8) : ByteArray := ⟨l.toArray⟩
/-- what the reference's walk through a text knows: the pieces so far, the place behind the last comma -/
def Cut (L : List UInt8) (P : List (List UInt8)) (f k : Nat) : Prop :=
  (k ≤ L.length → f ≤ k ∧ sp L = P ++ sp (L.drop f) ∧ ∀ c ∈ (L.drop f).take (k - f), c ≠ 44) ∧ (L.length < k → sp L = P)
theorem Cut.start (L : List UInt8) : Cut L [] 0 0 := ⟨fun _ => ⟨Nat.le_refl _, rfl, by simp⟩, fun h => absurd h (by omega)⟩
theorem Cut.go {L : List UInt8} {P : List (List UInt8)} {f k : Nat} (h : Cut L P f k) {c : UInt8} (hc : L[k]? = some c) (hn : c ≠ 44) : Cut L P f (k + 1) := by
  have hk : k < L.length := (List.getElem?_eq_some_iff.1 hc).1
  obtain ⟨h1, h2, h3⟩ := h.1 (by omega)
  refine ⟨fun _ => ⟨by omega, h2, fun d hd => ?_⟩, fun h => absurd h (by omega)⟩
  rw [show k + 1 - f = (k - f) + 1 by omega, List.take_add_one, List.getElem?_drop, show f + (k - f) = k by omega, hc] at hd
  rcases List.mem_append.1 hd with hd | hd
  · exact h3 d hd
  · simp at hd; subst hd; exact hn
theorem Cut.comma {L : List UInt8} {P : List (List UInt8)} {f k : Nat} (h : Cut L P f k) (hc : L[k]? = some 44) : Cut L (P ++ [(L.drop f).take (k - f)]) (k + 1) (k + 1) := by
  have hk : k < L.length := (List.getElem?_eq_some_iff.1 hc).1
  obtain ⟨h1, h2, h3⟩ := h.1 (by omega)
  have e : L.drop f = (L.drop f).take (k - f) ++ 44 :: L.drop (k + 1) := by
    have e1 := (List.take_append_drop (k - f) (L.drop f)).symm
    rw [List.drop_drop, show f + (k - f) = k by omega, List.drop_eq_getElem_cons hk] at e1
    rw [List.getElem?_eq_getElem hk] at hc
    injection hc with hc
    rw [hc] at e1
    exact e1
  have e2 : sp (L.drop f) = (L.drop f).take (k - f) :: sp (L.drop (k + 1)) := by
    conv => lhs; rw [e]
    exact sp_cut _ _ h3
  have hs : sp L = (P ++ [(L.drop f).take (k - f)]) ++ sp (L.drop (k + 1)) := by rw [h2, e2]; simp
  refine ⟨fun _ => ⟨Nat.le_refl _, hs, by simp⟩, fun h => ?_⟩
  omega
theorem Cut.last {L : List UInt8} {P : List (List UInt8)} {f : Nat} (h : Cut L P f L.length) : Cut L (P ++ [(L.drop f).take (L.length - f)]) (L.length + 1) (L.length + 1) := by
  obtain ⟨h1, h2, h3⟩ := h.1 (Nat.le_refl _)
  refine ⟨fun hh => absurd hh (by omega), fun _ => ?_⟩
  have e : (L.drop f).take (L.length - f) = L.drop f := List.take_of_length_le (by rw [List.length_drop]; omega)
  rw [e] at h3 ⊢
  rw [h2, sp_none _ h3]
theorem slice_run (t : ByteArray) (f k : Nat) (w : World) (h1 : f ≤ k) (h2 : k ≤ t.size) : (Instr.slice 9 (.string t) (some (.int .i64 (f : Int))) (some (.int .i64 (k : Int))) none).run Tryd.prog w = .ok (.string (t.extract f k)) w := by
  rw [run_slice_string w 9 t .i64 .i64 (f : Int) (k : Int) Tryd.underlying9 (by omega) (by omega) (by omega)]
  rfl
theorem piece_eq (t : ByteArray) (f k : Nat) : t.extract f k = mkS ((t.data.toList.drop f).take (k - f)) := by
  apply ByteArray.ext
  unfold mkS
  apply Array.toList_inj.1
  simp [ByteArray.data_extract, List.extract_eq_take_drop]
set_option maxRecDepth 100000 in
set_option maxHeartbeats 3000000 in
theorem pParts_any (t : ByteArray) (w : World) (ht : t.size ≤ 1000) :
    Calls Tryd.prog 72 #[.string t] w fun e w' => ∃ A' c', e = .returned (.slice A' (partsB t).length c') ∧ Reads w' w'.heap.size 1 A' (partsB t).length (ss (partsB t)) ∧ Below w.heap.size w w' := by
  obtain ⟨i0, hi, hz0, hz1, hz2⟩ := info_parts Tryd.infoS
  have HTL := Lib.hid (ba_len t)
  go_enter Tryd.func72, Tryd.ntmps72
  go_wp2
  go_loopw [3, 4, 5] (fun v fv i wr => ∃ (k f q : Nat) (xs : List Value) (P : List (List UInt8)), k ≤ t.size + 1 ∧ f ≤ k ∧ q ≤ k ∧ i = .int .i64 k ∧ fv = .int .i64 f ∧ Hid (Cut t.data.toList P f k ∧ q = P.length ∧ xs = ss (P.map mkS)) ∧ wr.ownsRow w.heap.size 9 1 v q xs ∧ Below w.heap.size w wr) (fun _ _ i _ => t.size + 1 - (intOf i).toNat)
  case atStart => exact ⟨0, 0, 0, [], [], Nat.zero_le _, Nat.le_refl _, Nat.le_refl _, rfl, rfl, Lib.hid ⟨Cut.start _, rfl, rfl⟩, World.ownsRow_nil _ _ _ _, Below.refl _ _⟩
  case round =>
    obtain ⟨k, f, q, xs, P, hk, hfk, hqk, rfl, rfl, HC, hown, hb⟩ := hrel
    have hsz := hb.size
    by_cases hle : k ≤ t.size
    · have dle : decide ((k : Int) ≤ (t.size : Int)) = true := by simp; omega
      by_cases hend : k = t.size
      · have HN0 := Lib.hid (show Cut t.data.toList (P ++ [(t.data.toList.drop f).take (k - f)]) (k + 1) (k + 1) by
          have h1 := HC.out.1
          rw [hend, ← HTL.out] at h1 ⊢
          exact h1.last)
        subst hend
        have deq : ((t.size : Int) == (t.size : Int)) = true := by simp
        have hsl := slice_run t f t.size wr hfk hle
        have HN : Hid (Cut t.data.toList (P ++ [(t.data.toList.drop f).take (t.size - f)]) (t.size + 1) (t.size + 1) ∧ q + 1 = (P ++ [(t.data.toList.drop f).take (t.size - f)]).length ∧ xs ++ [.string (t.extract f t.size)] = ss ((P ++ [(t.data.toList.drop f).take (t.size - f)]).map mkS)) := Lib.hid ⟨HN0.out, by rw [List.length_append, ← HC.out.2.1]; rfl, by rw [List.map_append, ss_append, ← HC.out.2.2, piece_eq t]; rfl⟩
        clear HC HN0
        go_wp2_with (at_builtin; refine wpList_append_own _ rfl _ _ 37 rfl w.heap.size 9 i0 (.string ByteArray.empty) 1 16 Tryd.underlying37 hi hz0 hz1 hz2 rfl (by decide) _ _ _ rfl (hown.alloc _) ⟨wr.heap.size, 0, none⟩ 1 1 [.string (t.extract f t.size)] rfl rfl ?c1 ?c2 ?c3 ?c4 ?c5 ?_)
        case c1 =>
          intro j u hj
          match j, hj with
          | 0, hj => simp at hj; subst hj; simp [Addr.add]
        case c2 => intro u hu; simp at hu; subst hu; rfl
        case c3 => unfold maxLen; omega
        case c4 => omega
        case c5 => simp; omega
        intro v' w3 hown' hgrow _
        have hb3 : Below w.heap.size w w3 := (hb.alloc hsz _).grown hgrow (by simp; omega) (fun j hj => ((hown.alloc (.cells #[.string (t.extract f t.size)] 9)).lt j hj).1)
        clear hgrow hown hb
        go_wp2
        go_roundw
        case rel => exact ⟨t.size + 1, t.size + 1, q + 1, _, P ++ [(t.data.toList.drop f).take (t.size - f)], by omega, Nat.le_refl _, by omega, by go_num, by go_num, HN, hown', hb3⟩
        case measure => simp [intOf]
      · have hlt : k < t.size := by omega
        have deq : ((k : Int) == (t.size : Int)) = false := by simp; omega
        have hch := chr_at t k hlt
        by_cases hcm : t[k].toNat = 44
        · have HN0 := Lib.hid (HC.out.1.comma (by
            rw [hch]
            exact congrArg some (UInt8.toNat_inj.1 hcm)))
          have hdc : ((t[k].toNat : Int) == 44) = true := by rw [hcm]; rfl
          have hsl := slice_run t f k wr hfk hle
          have HN : Hid (Cut t.data.toList (P ++ [(t.data.toList.drop f).take (k - f)]) (k + 1) (k + 1) ∧ q + 1 = (P ++ [(t.data.toList.drop f).take (k - f)]).length ∧ xs ++ [.string (t.extract f k)] = ss ((P ++ [(t.data.toList.drop f).take (k - f)]).map mkS)) := Lib.hid ⟨HN0.out, by rw [List.length_append, ← HC.out.2.1]; rfl, by rw [List.map_append, ss_append, ← HC.out.2.2, piece_eq t]; rfl⟩
          clear HC HN0 hch hcm
          go_wp2_with (at_builtin; refine wpList_append_own _ rfl _ _ 37 rfl w.heap.size 9 i0 (.string ByteArray.empty) 1 16 Tryd.underlying37 hi hz0 hz1 hz2 rfl (by decide) _ _ _ rfl (hown.alloc _) ⟨wr.heap.size, 0, none⟩ 1 1 [.string (t.extract f k)] rfl rfl ?c1 ?c2 ?c3 ?c4 ?c5 ?_)
          case c1 =>
            intro j u hj
            match j, hj with
            | 0, hj => simp at hj; subst hj; simp [Addr.add]
          case c2 => intro u hu; simp at hu; subst hu; rfl
          case c3 => unfold maxLen; omega
          case c4 => omega
          case c5 => simp; omega
          intro v' w3 hown' hgrow _
          have hb3 : Below w.heap.size w w3 := (hb.alloc hsz _).grown hgrow (by simp; omega) (fun j hj => ((hown.alloc (.cells #[.string (t.extract f k)] 9)).lt j hj).1)
          clear hgrow hown hb
          go_wp2
          go_roundw
          case rel => exact ⟨k + 1, k + 1, q + 1, _, P ++ [(t.data.toList.drop f).take (k - f)], by omega, Nat.le_refl _, by omega, by go_num, by go_num, HN, hown', hb3⟩
          case measure => simp [intOf]; omega
        · have HN : Hid (Cut t.data.toList P f (k + 1) ∧ q = P.length ∧ xs = ss (P.map mkS)) := Lib.hid ⟨HC.out.1.go hch (fun e => hcm (by rw [e]; rfl)), HC.out.2⟩
          have hdc : ((t[k].toNat : Int) == 44) = false := by rw [beq_eq_false_iff_ne]; omega
          clear HC hch hcm
          go_wp2
          go_roundw
          case rel => exact ⟨k + 1, f, q, xs, P, by omega, by omega, by omega, by go_num, rfl, HN, hown, hb⟩
          case measure => simp [intOf]; omega
    · have dle : decide ((k : Int) ≤ (t.size : Int)) = false := by simp; omega
      have HE : Hid (partsB t = P.map mkS) := Lib.hid (by
        unfold partsB
        rw [HC.out.1.2 (by rw [HTL.out]; omega)]
        rfl)
      obtain ⟨A', c', rfl, _, _, _, hRd⟩ := own_reads2 hown
      have HRD : Hid (q = (partsB t).length ∧ Reads wr wr.heap.size 1 A' (partsB t).length (ss (partsB t))) := Lib.hid (by
        have h1 : q = (partsB t).length := by rw [HE.out, List.length_map]; exact HC.out.2.1
        refine ⟨h1, ?_⟩
        rw [← h1, HE.out, ← HC.out.2.2]
        exact hRd)
      have HB := Lib.hid hb
      clear hRd hown hb HC
      go_wp2
      go_ret
      exact ⟨A', c', by first | (rw [← HRD.out.1]; done) | (rw [← HRD.out.1]; rfl), HRD.out.2, HB.out⟩
end Go.Proofs.YtichhbnpdhfimaaDoor
