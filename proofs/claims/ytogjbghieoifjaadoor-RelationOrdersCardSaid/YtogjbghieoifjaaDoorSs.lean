/- Contracts of the library's slices.Clone, Equal and Contains at lists of words. -/
import Derived.Test.YtogjbghieoifjaaDoorBe
import Derived.Lib.Walk
import Derived.Lib.SliceRun
namespace Go.Proofs.YtogjbghieoifjaaDoor
open Go.RowKit Go.Proofs.Ws
theorem HoldsP.of_own {w : World} {base : Nat} {v : Value} {l : List Nat} (h : w.ownsRow base 34 1 v l.length (us l)) (hv : v ≠ .slice none 0 0) : ∃ g c, v = .slice (some ⟨g, 0, none⟩) l.length c ∧ base ≤ g ∧ HoldsP w g l ∧ l.length ≤ c := by
  rcases h.2 with ⟨e, _⟩ | ⟨g, cap, cur, e, hb, hg, hn, _, hs, ht⟩
  · exact absurd e hv
  · refine ⟨g, cap, e, hb, ⟨cur.toList.drop l.length, ?_⟩, hn⟩
    rw [hg]
    have : cur = (us l ++ cur.toList.drop l.length).toArray := by
      rw [← ht, Nat.mul_one, List.take_append_drop]
    rw [← this]
set_option maxHeartbeats 2000000 in
set_option maxRecDepth 100000 in
theorem clone_any (l : List Nat) (A : Option Addr) (n c : Nat) (w : World) (hR : Reads w w.heap.size 1 A n (us l)) (hn : n ≤ 64) :
    Calls Tryd.prog 78 #[.slice A n c] w fun e w' => ∃ A' c', e = .returned (.slice A' n c') ∧ (0 < n → ∃ g, A' = some ⟨g, 0, none⟩ ∧ w.heap.size ≤ g ∧ HoldsP w' g l) ∧ Below w.heap.size w w' := by
  have e1 := hR.word_len
  have q22 : ∀ (w : World) (a : Option Addr) (n c n' c' : Nat), (binOp .eql 22 (.slice a n c) (.slice none n' c')).run Tryd.prog w = .ok (.bool a.isNone) w := fun w a n c n' c' => Lib.run_eql_slice_nil w _ _ a n c n' c' Tryd.underlying22
  cases A with
  | none =>
    have h0 : n = 0 := by
      apply Classical.byContradiction
      intro h
      obtain ⟨ad, u, hA, _⟩ := hR.at_ (show 0 < n by omega)
      cases hA
    subst h0
    go_enter Tryd.func78, Tryd.ntmps78
    go_wp2
    go_ret
    exact ⟨none, 0, rfl, fun h => absurd h (by omega), Below.refl _ _⟩
  | some a =>
    obtain ⟨i0, hi, hz0, hz1, hz2⟩ := info_parts Tryd.infoU
    have HR : Hid (Reads w w.heap.size 1 (some a) n (us l)) := Lib.hid hR
    clear hR
    go_enter Tryd.func78, Tryd.ntmps78
    go_wp2_with (at_builtin; refine wpList_append_own _ rfl _ _ 22 rfl w.heap.size 34 i0 (.int .u64 0) 1 8 Tryd.underlying22 hi hz0 hz1 hz2 rfl (by decide) _ _ _ rfl (World.ownsRow_made w #[] 0 (Nat.le_refl _) (Nat.zero_le _) (by simp)) a n c (us l) rfl ?qc1 ?qc2 ?qc3 ?qc4 ?qc5 ?qc6 ?_)
    case qc1 => rw [us_length]; omega
    case qc2 =>
      intro j u hj
      obtain ⟨_, h⟩ := HR.out
      have hjn : j < n := by
        unfold us at hj
        rw [List.getElem?_map] at hj
        obtain ⟨k, hk, _⟩ := Option.map_eq_some_iff.1 hj
        have := (List.getElem?_eq_some_iff.1 hk).1
        omega
      obtain ⟨ad, hA, hb, hc⟩ := h (by omega)
      cases hA
      exact Lib.cell?_alloc_some _ (hc j u hj)
    case qc3 =>
      intro u hu
      unfold us at hu
      obtain ⟨k, _, rfl⟩ := List.mem_map.1 hu
      rfl
    case qc4 => unfold maxLen; omega
    case qc5 => omega
    case qc6 => simp
    intro v' w1 hown hgrow hnil
    have hb : Below w.heap.size w w1 := ((Below.refl _ w).alloc (Nat.le_refl _) _).grown hgrow (by simp) (by intro k hk; simp [Value.ownBlock] at hk; omega)
    have hown' : w1.ownsRow w.heap.size 34 1 v' l.length (us l) := by
      have : 0 + n = l.length := by omega
      rw [← this]; simpa using hown
    obtain ⟨g, c', rfl, hg, hH, _⟩ := HoldsP.of_own hown' hnil
    have HB := Lib.hid hb
    have HH := Lib.hid hH
    clear hown hgrow hnil hb hown' hH
    go_wp2
    go_ret
    exact ⟨_, c', by rw [e1]; rfl, fun _ => ⟨g, rfl, hg, HH.out⟩, HB.out⟩
set_option maxRecDepth 100000 in
theorem equal_any (l m : List Nat) (A A2 : Option Addr) (n n2 c c2 B : Nat) (w : World) (hR : Reads w B 1 A n (us l)) (hR2 : Reads w B 1 A2 n2 (us m)) (hn : n ≤ maxLen) (hn2 : n2 ≤ maxLen) :
    Calls Tryd.prog 74 #[.slice A n c, .slice A2 n2 c2] w fun e w' => e = .returned (.bool (decide (l = m))) ∧ ∃ q, w' = w.drewN q := by
  unfold maxLen at hn hn2
  have e1 := hR.word_len
  have e2 := hR2.word_len
  by_cases h : n = n2
  · subst h
    have HL := Lib.hid e1
    have HL2 := Lib.hid e2
    clear e1 e2
    go_enter Tryd.func74, Tryd.ntmps74
    go_wp2
    go_loopw [13] (fun i wr => ∃ k q : Nat, k ≤ n ∧ i = .int .i64 k ∧ Hid (decide (l = m) = decide (l.drop k = m.drop k)) ∧ wr = w.drewN q) (fun i _ => n - (intOf i).toNat)
    case atStart => exact ⟨0, 0, Nat.zero_le _, rfl, Lib.hid rfl, rfl⟩
    case round =>
      obtain ⟨k, q, hk, rfl, HI, rfl⟩ := hrel
      by_cases hlt : k < n
      · obtain ⟨ad, x, rfl, hb, hkl, hx, hxm, hd, hc⟩ := hR.word_at hlt
        obtain ⟨ad2, y, rfl, hb2, hkl2, hy, hym, hd2, hc2⟩ := hR2.word_at hlt
        have HD := Lib.hid hd
        have HD2 := Lib.hid hd2
        clear hkl hx hxm hd hkl2 hy hym hd2
        by_cases hxy : x = y
        · subst hxy
          have HI2 : Hid (decide (l = m) = decide (l.drop (k + 1) = m.drop (k + 1))) := Lib.hid (by rw [HI.out, HD.out, HD2.out]; exact decide_eq_decide.2 (by simp))
          go_wp2
          go_quiet (fail)
          go_wp2
          go_roundw
          case rel => exact ⟨k + 1, q + nq, by omega, by go_num, HI2, by first | rfl | rw [World.drewN_drewN]⟩
          case measure => simp [intOf]; omega
        · have HE : Hid (decide (l = m) = false) := Lib.hid (by rw [HI.out, HD.out, HD2.out]; simp [hxy])
          have hne : ((x : Int) != (y : Int)) = true := by simp; omega
          clear hxy
          go_wp2
          go_quiet (fail)
          go_wp2
          go_ret
          exact ⟨ret_bool HE.out.symm, ⟨q + nq, by first | rfl | rw [World.drewN_drewN]⟩⟩
      · have HE : Hid (decide (l = m) = true) := Lib.hid (by rw [HI.out, List.drop_eq_nil_of_le (by have := HL.out; omega), List.drop_eq_nil_of_le (by have := HL2.out; omega)]; rfl)
        go_wp2
        go_ret
        exact ⟨ret_bool HE.out.symm, ⟨q, rfl⟩⟩
  · have hne : ((n : Int) != (n2 : Int)) = true := by simp; omega
    have HE : Hid (decide (l = m) = false) := Lib.hid (by simp; intro hh; subst hh; omega)
    clear e1 e2
    go_enter Tryd.func74, Tryd.ntmps74
    go_wp2
    go_ret
    exact ⟨ret_bool HE.out.symm, ⟨0, rfl⟩⟩
set_option maxRecDepth 100000 in
theorem index_any (l : List Nat) (x : Nat) (A : Option Addr) (n c B : Nat) (w : World) (hR : Reads w B 1 A n (us l)) (hn : n ≤ maxLen) :
    Calls Tryd.prog 73 #[.slice A n c, .int .u64 x] w fun e w' => ∃ z : Int, e = .returned (.int .i64 z) ∧ decide (0 ≤ z) = decide (x ∈ l) ∧ w = w' := by
  unfold maxLen at hn
  have e1 := hR.word_len
  have HL := Lib.hid e1
  clear e1
  go_enter Tryd.func73, Tryd.ntmps73
  go_wp2
  go_loopw [8] (fun i wr => ∃ k : Nat, k ≤ n ∧ i = .int .i64 k ∧ Hid (decide (x ∈ l) = decide (x ∈ l.drop k)) ∧ wr = w) (fun i _ => n - (intOf i).toNat)
  case atStart => exact ⟨0, Nat.zero_le _, rfl, Lib.hid rfl, rfl⟩
  case round =>
    obtain ⟨k, hk, rfl, HI, rfl⟩ := hrel
    by_cases hlt : k < n
    · obtain ⟨ad, y, rfl, hb, hkl, hy, hym, hd, hc⟩ := hR.word_at hlt
      have HD := Lib.hid hd
      clear hkl hy hym hd
      by_cases hxy : x = y
      · subst hxy
        have HE : Hid (decide (x ∈ l) = true) := Lib.hid (by rw [HI.out, HD.out]; simp)
        go_wp2
        go_ret
        exact ⟨(k : Int), rfl, by rw [HE.out]; simp, rfl⟩
      · have HI2 : Hid (decide (x ∈ l) = decide (x ∈ l.drop (k + 1))) := Lib.hid (by rw [HI.out, HD.out]; simp [hxy])
        have hne : ((x : Int) == (y : Int)) = false := by simp; omega
        have hne2 : decide ((x : Int) = (y : Int)) = false := by simp; omega
        clear hxy
        go_wp2
        go_roundw
        case rel => exact ⟨k + 1, by omega, by go_num, HI2, by first | rfl | trivial⟩
        case measure => simp [intOf]; omega
    · have HE : Hid (decide (x ∈ l) = false) := Lib.hid (by rw [HI.out, List.drop_eq_nil_of_le (by have := HL.out; omega)]; simp)
      go_wp2
      go_ret
      exact ⟨-1, rfl, by rw [HE.out]; rfl, rfl⟩
theorem contains_any (l : List Nat) (x : Nat) (A : Option Addr) (n c B : Nat) (w : World) (hR : Reads w B 1 A n (us l)) (hn : n ≤ maxLen) :
    Calls Tryd.prog 47 #[.slice A n c, .int .u64 x] w fun e w' => e = .returned (.bool (decide (x ∈ l))) ∧ w = w' := by
  have H := Lib.hid (index_any l x A n c B w hR hn)
  clear hR
  go_enter Tryd.func47, Tryd.ntmps47
  go_wp2_with fail
  refine (H.out).mono ?_
  rintro e w' ⟨z, rfl, hz, rfl⟩
  have HZ := Lib.hid hz
  clear hz
  go_wp2
  go_ret
  exact ⟨ret_bool HZ.out, rfl⟩
end Go.Proofs.YtogjbghieoifjaaDoor
