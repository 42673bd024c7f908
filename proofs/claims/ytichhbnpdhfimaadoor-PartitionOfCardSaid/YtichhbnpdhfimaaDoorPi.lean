/- Layer 3: copies and equality of lists of numbers. -/
import Derived.Test.YtichhbnpdhfimaaDoorPh
import Derived.Lib.Walk
import Derived.Lib.SliceRun
namespace Go.Proofs.YtichhbnpdhfimaaDoor
open Go.RowKit Go.Proofs.Ws
/-- block g holds these words, and maybe more behind them -/
def HoldsJ (w : World) (g : Nat) (l : List Int) : Prop := ∃ pad : List Value, w.heap[g]? = some (.cells (ints l ++ pad).toArray 3 (0, 0))
theorem HoldsI.pad {w : World} {g : Nat} {l : List Int} (h : HoldsI w g l) : HoldsJ w g l := ⟨[], by rw [List.append_nil]; exact h⟩
theorem HoldsJ.cell {w : World} {g : Nat} {l : List Int} (h : HoldsJ w g l) (k : Nat) (hk : k < l.length) : w.cell? ⟨g, k, none⟩ = some (.int .i64 (l.getD k 0)) := by
  obtain ⟨pad, h⟩ := h
  rw [Lib.cell_of_heap h, List.getElem?_toArray, List.getElem?_append_left (by rw [ints_length]; exact hk)]
  unfold ints
  rw [List.getElem?_map, List.getElem?_eq_getElem hk, List.getD_eq_getElem?_getD, List.getElem?_eq_getElem hk]
  rfl
theorem HoldsJ.free {w : World} {g : Nat} {l : List Int} (h : HoldsJ w g l) (k : Nat) : w.frozen? ⟨g, k, none⟩ = false := by
  obtain ⟨pad, h⟩ := h
  exact Lib.frozen_of_heap h k
theorem HoldsJ.put {w : World} {g : Nat} {l : List Int} (h : HoldsJ w g l) (k : Nat) (x : Int) : HoldsJ (w.setCell ⟨g, k, none⟩ (.int .i64 x)) g (l.set k x) := by
  obtain ⟨pad, h⟩ := h
  by_cases hk : k < l.length
  · refine ⟨pad, ?_⟩
    have e : (ints (l.set k x) ++ pad).toArray = (ints l ++ pad).toArray.setIfInBounds k (.int .i64 x) := by
      unfold ints
      rw [List.map_set]
      simp [hk]
    rw [e]
    simp [World.setCell, Array.getElem?_modify, h]
  · refine ⟨pad.set (k - l.length) (.int .i64 x), ?_⟩
    have e : (ints (l.set k x) ++ pad.set (k - l.length) (.int .i64 x)).toArray = (ints l ++ pad).toArray.setIfInBounds k (.int .i64 x) := by
      rw [List.set_eq_of_length_le (by omega)]
      simp [List.set_append, ints_length, hk]
    rw [e]
    simp [World.setCell, Array.getElem?_modify, h]
theorem HoldsJ.lt {w : World} {g : Nat} {l : List Int} (h : HoldsJ w g l) : g < w.heap.size := by
  obtain ⟨pad, h⟩ := h
  exact (Array.getElem?_eq_some_iff.1 h).1
theorem HoldsJ.below {w w' : World} {B g : Nat} {l : List Int} (h : HoldsJ w g l) (hb : Below B w w') (hg : g < B) : HoldsJ w' g l := by
  obtain ⟨pad, h⟩ := h
  exact ⟨pad, (hb.block g hg).trans h⟩
theorem HoldsJ.reads {w : World} {g : Nat} {l : List Int} (h : HoldsJ w g l) : Reads w w.heap.size 1 (some ⟨g, 0, none⟩) l.length (ints l) := by
  refine ⟨by rw [ints_length]; omega, fun _ => ⟨_, rfl, h.lt, fun j u hu => ?_⟩⟩
  rw [addr0]
  unfold ints at hu
  rw [List.getElem?_map] at hu
  obtain ⟨k, hk, rfl⟩ := Option.map_eq_some_iff.1 hu
  have hj : j < l.length := by
    by_cases h' : j < l.length
    · exact h'
    · rw [List.getElem?_eq_none (by omega)] at hk; cases hk
  rw [h.cell j hj, List.getD_eq_getElem?_getD, hk]; rfl
theorem HoldsJ.of_own {w : World} {base : Nat} {v : Value} {l : List Int} (h : w.ownsRow base 3 1 v l.length (ints l)) (hv : v ≠ .slice none 0 0) : ∃ g c, v = .slice (some ⟨g, 0, none⟩) l.length c ∧ base ≤ g ∧ HoldsJ w g l ∧ l.length ≤ c := by
  rcases h.2 with ⟨e, _⟩ | ⟨g, cap, cur, e, hb, hg, hn, _, hs, ht⟩
  · exact absurd e hv
  · refine ⟨g, cap, e, hb, ⟨cur.toList.drop l.length, ?_⟩, hn⟩
    rw [hg]
    have : cur = (ints l ++ cur.toList.drop l.length).toArray := by
      rw [← ht, Nat.mul_one, List.take_append_drop]
    rw [← this]
set_option maxHeartbeats 2000000 in
set_option maxRecDepth 100000 in
theorem cloneI_any (l : List Int) (A : Option Addr) (n c : Nat) (w : World) (hR : Reads w w.heap.size 1 A n (ints l)) (hn : n ≤ 64) :
    Calls Tryd.prog 75 #[.slice A n c] w fun e w' => ∃ A' c', e = .returned (.slice A' n c') ∧ (0 < n → ∃ g, A' = some ⟨g, 0, none⟩ ∧ w.heap.size ≤ g ∧ HoldsJ w' g l) ∧ Below w.heap.size w w' := by
  have e1 := hR.int_len
  have q22 : ∀ (w : World) (a : Option Addr) (n c n' c' : Nat), (binOp .eql 24 (.slice a n c) (.slice none n' c')).run Tryd.prog w = .ok (.bool a.isNone) w := fun w a n c n' c' => Lib.run_eql_slice_nil w _ _ a n c n' c' Tryd.underlying24
  cases A with
  | none =>
    have h0 : n = 0 := by
      apply Classical.byContradiction
      intro h
      obtain ⟨ad, u, hA, _⟩ := hR.at_ (show 0 < n by omega)
      cases hA
    subst h0
    go_enter Tryd.func75, Tryd.ntmps75
    go_wp2
    go_ret
    exact ⟨none, 0, rfl, fun h => absurd h (by omega), Below.refl _ _⟩
  | some a =>
    obtain ⟨i0, hi, hz0, hz1, hz2⟩ := info_parts Tryd.infoI
    have HR : Hid (Reads w w.heap.size 1 (some a) n (ints l)) := Lib.hid hR
    clear hR
    go_enter Tryd.func75, Tryd.ntmps75
    go_wp2_with (at_builtin; refine wpList_append_own _ rfl _ _ 24 rfl w.heap.size 3 i0 (.int .i64 0) 1 8 Tryd.underlying24 hi hz0 hz1 hz2 rfl (by decide) _ _ _ rfl (World.ownsRow_made w #[] 0 (Nat.le_refl _) (Nat.zero_le _) (by simp)) a n c (ints l) rfl ?qc1 ?qc2 ?qc3 ?qc4 ?qc5 ?qc6 ?_)
    case qc1 => rw [ints_length]; omega
    case qc2 =>
      intro j u hj
      obtain ⟨_, h⟩ := HR.out
      have hjn : j < n := by
        unfold ints at hj
        rw [List.getElem?_map] at hj
        obtain ⟨k, hk, _⟩ := Option.map_eq_some_iff.1 hj
        have := (List.getElem?_eq_some_iff.1 hk).1
        omega
      obtain ⟨ad, hA, hb, hc⟩ := h (by omega)
      cases hA
      exact Lib.cell?_alloc_some _ (hc j u hj)
    case qc3 =>
      intro u hu
      unfold ints at hu
      obtain ⟨k, _, rfl⟩ := List.mem_map.1 hu
      rfl
    case qc4 => unfold maxLen; omega
    case qc5 => omega
    case qc6 => simp
    intro v' w1 hown hgrow hnil
    have hb : Below w.heap.size w w1 := ((Below.refl _ w).alloc (Nat.le_refl _) _).grown hgrow (by simp) (by intro k hk; simp [Value.ownBlock] at hk; omega)
    have hown' : w1.ownsRow w.heap.size 3 1 v' l.length (ints l) := by
      have : 0 + n = l.length := by omega
      rw [← this]; simpa using hown
    obtain ⟨g, c', rfl, hg, hH, _⟩ := HoldsJ.of_own hown' hnil
    have HB := Lib.hid hb
    have HH := Lib.hid hH
    clear hown hgrow hnil hb hown' hH
    go_wp2
    go_ret
    exact ⟨_, c', by rw [e1]; rfl, fun _ => ⟨g, rfl, hg, HH.out⟩, HB.out⟩
theorem drop_getD (l : List Int) (k : Nat) (h : k < l.length) : l.drop k = l.getD k 0 :: l.drop (k + 1) := by
  rw [List.getD_eq_getElem?_getD, List.getElem?_eq_getElem h, List.drop_eq_getElem_cons h]; rfl
set_option maxRecDepth 100000 in
theorem equalI_any (l m : List Int) (A A2 : Option Addr) (n n2 c c2 B : Nat) (w : World) (hR : Reads w B 1 A n (ints l)) (hR2 : Reads w B 1 A2 n2 (ints m)) (hn : n ≤ maxLen) (hn2 : n2 ≤ maxLen) :
    Calls Tryd.prog 19 #[.slice A n c, .slice A2 n2 c2] w fun e w' => e = .returned (.bool (decide (l = m))) ∧ ∃ q, w' = w.drewN q := by
  unfold maxLen at hn hn2
  have e1 := hR.int_len
  have e2 := hR2.int_len
  by_cases h : n = n2
  · subst h
    have HL := Lib.hid e1
    have HL2 := Lib.hid e2
    clear e1 e2
    go_enter Tryd.func19, Tryd.ntmps19
    go_wp2
    go_loopw [13] (fun i wr => ∃ k q : Nat, k ≤ n ∧ i = .int .i64 k ∧ Hid (decide (l = m) = decide (l.drop k = m.drop k)) ∧ wr = w.drewN q) (fun i _ => n - (intOf i).toNat)
    case atStart => exact ⟨0, 0, Nat.zero_le _, rfl, Lib.hid rfl, rfl⟩
    case round =>
      obtain ⟨k, q, hk, rfl, HI, rfl⟩ := hrel
      by_cases hlt : k < n
      · obtain ⟨ad, rfl, hb, hc⟩ := hR.int_at hlt
        obtain ⟨ad2, rfl, hb2, hc2⟩ := hR2.int_at hlt
        have HD := Lib.hid (drop_getD l k (by have := HL.out; omega))
        have HD2 := Lib.hid (drop_getD m k (by have := HL2.out; omega))
        generalize l.getD k 0 = x at *
        generalize m.getD k 0 = y at *
        by_cases hxy : x = y
        · subst hxy
          have HI2 : Hid (decide (l = m) = decide (l.drop (k + 1) = m.drop (k + 1))) := Lib.hid (by rw [HI.out, HD.out, HD2.out]; exact decide_eq_decide.2 (by simp))
          have hb1 : (x != x) = false := by simp
          go_wp2
          go_quiet (fail)
          go_wp2
          go_roundw
          case rel => exact ⟨k + 1, q + nq, by omega, by go_num, HI2, by first | rfl | rw [World.drewN_drewN]⟩
          case measure => simp [intOf]; omega
        · have HE : Hid (decide (l = m) = false) := Lib.hid (by rw [HI.out, HD.out, HD2.out]; simp [hxy])
          have hne : (x != y) = true := by rw [bne_iff_ne]; exact hxy
          clear hxy
          go_wp2
          go_quiet (fail)
          go_wp2
          go_ret
          exact ⟨ret_bool HE.out.symm, ⟨q + nq, by first | rfl | rw [World.drewN_drewN]⟩⟩
      · have HE : Hid (decide (l = m) = true) := Lib.hid (by rw [HI.out, List.drop_eq_nil_of_le (by have := HL.out; omega), List.drop_eq_nil_of_le (by have := HL2.out; omega)]; rfl)
        go_wp2
        go_ret
        exact ⟨ret_bool HE.out.symm, ⟨q, rfl⟩⟩
  · have hne : ((n : Int) != (n2 : Int)) = true := by simp; omega
    have HE : Hid (decide (l = m) = false) := Lib.hid (by simp; intro hh; subst hh; omega)
    clear e1 e2
    go_enter Tryd.func19, Tryd.ntmps19
    go_wp2
    go_ret
    exact ⟨ret_bool HE.out.symm, ⟨0, rfl⟩⟩
set_option maxRecDepth 100000 in
theorem equal_any (l m : List Nat) (A A2 : Option Addr) (n n2 c c2 B : Nat) (w : World) (hR : Reads w B 1 A n (us l)) (hR2 : Reads w B 1 A2 n2 (us m)) (hn : n ≤ maxLen) (hn2 : n2 ≤ maxLen) :
    Calls Tryd.prog 53 #[.slice A n c, .slice A2 n2 c2] w fun e w' => e = .returned (.bool (decide (l = m))) ∧ ∃ q, w' = w.drewN q := by
  unfold maxLen at hn hn2
  have e1 := hR.word_len
  have e2 := hR2.word_len
  by_cases h : n = n2
  · subst h
    have HL := Lib.hid e1
    have HL2 := Lib.hid e2
    clear e1 e2
    go_enter Tryd.func53, Tryd.ntmps53
    go_wp2
    go_loopw [13] (fun i wr => ∃ k q : Nat, k ≤ n ∧ i = .int .i64 k ∧ Hid (decide (l = m) = decide (l.drop k = m.drop k)) ∧ wr = w.drewN q) (fun i _ => n - (intOf i).toNat)
    case atStart => exact ⟨0, 0, Nat.zero_le _, rfl, Lib.hid rfl, rfl⟩
    case round =>
      obtain ⟨k, q, hk, rfl, HI, rfl⟩ := hrel
      by_cases hlt : k < n
      · obtain ⟨ad, x, rfl, hb, hkl, hx, hxm, hd, hc⟩ := hR.word_at hlt
        obtain ⟨ad2, y, rfl, hb2, hkl2, hy, hym, hd2, hc2⟩ := hR2.word_at hlt
        have HD := Lib.hid hd
        have HD2 := Lib.hid hd2
        clear hkl hx hxm hd hkl2 hy hym hd2
        by_cases hxy : x = y
        · subst hxy
          have HI2 : Hid (decide (l = m) = decide (l.drop (k + 1) = m.drop (k + 1))) := Lib.hid (by rw [HI.out, HD.out, HD2.out]; exact decide_eq_decide.2 (by simp))
          go_wp2
          go_quiet (fail)
          go_wp2
          go_roundw
          case rel => exact ⟨k + 1, q + nq, by omega, by go_num, HI2, by first | rfl | rw [World.drewN_drewN]⟩
          case measure => simp [intOf]; omega
        · have HE : Hid (decide (l = m) = false) := Lib.hid (by rw [HI.out, HD.out, HD2.out]; simp [hxy])
          have hne : ((x : Int) != (y : Int)) = true := by simp; omega
          clear hxy
          go_wp2
          go_quiet (fail)
          go_wp2
          go_ret
          exact ⟨ret_bool HE.out.symm, ⟨q + nq, by first | rfl | rw [World.drewN_drewN]⟩⟩
      · have HE : Hid (decide (l = m) = true) := Lib.hid (by rw [HI.out, List.drop_eq_nil_of_le (by have := HL.out; omega), List.drop_eq_nil_of_le (by have := HL2.out; omega)]; rfl)
        go_wp2
        go_ret
        exact ⟨ret_bool HE.out.symm, ⟨q, rfl⟩⟩
  · have hne : ((n : Int) != (n2 : Int)) = true := by simp; omega
    have HE : Hid (decide (l = m) = false) := Lib.hid (by simp; intro hh; subst hh; omega)
    clear e1 e2
    go_enter Tryd.func53, Tryd.ntmps53
    go_wp2
    go_ret
    exact ⟨ret_bool HE.out.symm, ⟨0, rfl⟩⟩
end Go.Proofs.YtichhbnpdhfimaaDoor
