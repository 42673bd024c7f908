/- Contracts of layer 2's small functions: the check of a relation on both sides, the set of all points, the set of one point. -/
import Derived.Test.YtogjbghieoifjaaDoorAa
namespace Go.Proofs.YtogjbghieoifjaaDoor
open Go.RowKit Go.Proofs.Ws
theorem quiet_same {P : Program} {f : FuncId} {args : Array Value} {X : Nat → World} {n : Nat} {v : Value} (h : Calls P f args (X n) fun e w' => e = .returned v ∧ X n = w') :
    Calls P f args (X n) fun e w'' => e = .returned v ∧ ∃ m, w'' = X m := h.mono fun _ _ ⟨he, hm⟩ => ⟨he, n, hm.symm⟩
theorem quiet_drew {P : Program} {f : FuncId} {args : Array Value} {w : World} {q n : Nat} {v : Value} (h : Calls P f args ((w.drewN q).drewN n) fun e w' => e = .returned v ∧ ∃ k, w' = ((w.drewN q).drewN n).drewN k) :
    Calls P f args ((w.drewN q).drewN n) fun e w'' => e = .returned v ∧ ∃ m, w'' = (w.drewN q).drewN m := h.mono fun _ _ ⟨he, k, hm⟩ => ⟨he, n + k, by rw [hm]; simp [Nat.add_assoc]⟩
/-- a list of words in cells -/
def us (l : List Nat) : List Value := l.map (fun k : Nat => Value.int .u64 (k : Int))
theorem us_length (l : List Nat) : (us l).length = l.length := by simp [us]
/-- each is a word -/
def Words (l : List Nat) : Prop := ∀ x ∈ l, x < 18446744073709551616
theorem Reads.word_at {w : World} {B n : Nat} {A : Option Addr} {l : List Nat} (h : Reads w B 1 A n (us l)) {k : Nat} (hk : k < n) :
    ∃ ad x, A = some ad ∧ ad.block < B ∧ k < l.length ∧ l.getD k 0 = x ∧ x ∈ l ∧ l.drop k = x :: l.drop (k + 1) ∧ w.cell? (ad.add k) = some (.int .u64 (x : Int)) := by
  obtain ⟨ad, u, hA, hb, hu, hc⟩ := h.at_ hk
  unfold us at hu
  rw [List.getElem?_map] at hu
  have hl : k < l.length := by have := h.1; rw [us_length] at this; omega
  rw [List.getElem?_eq_getElem hl] at hu
  simp at hu
  subst hu
  exact ⟨ad, l[k], hA, hb, hl, by rw [List.getD_eq_getElem?_getD, List.getElem?_eq_getElem hl]; rfl, List.getElem_mem hl, List.drop_eq_getElem_cons hl, hc⟩
theorem Reads.word_len {w : World} {B n : Nat} {A : Option Addr} {l : List Nat} (h : Reads w B 1 A n (us l)) : l.length = n := by have := h.1; rw [us_length] at this; omega
/-- no row leads out of n points -/
def inN (n : Nat) (l : List Nat) : Bool := l.all (fun x => decide (x < 2 ^ n))
/-- the first error of a relation over n points -/
def relErr (n : Int) (l : List Nat) : Int := if n < 0 ∨ 64 < n then 2 else if (l.length : Int) ≠ n then 3 else if inN n.toNat l then 0 else 1
theorem relAll_any (n : Nat) (w : World) (h : n ≤ 64) :
    Calls Tryd.prog 45 #[.int .i64 n] w fun e w' => e = .returned (.int .u64 (allV n : Int)) ∧ w = w' := by
  have hv := wrap_allV n h
  go_enter Tryd.func45, Tryd.ntmps45
  go_wp2
  go_ret
  exact ⟨rfl, rfl⟩
theorem relOnly_any (n : Nat) (w : World) (h : n < 64) :
    Calls Tryd.prog 62 #[.int .i64 n] w fun e w' => e = .returned (.int .u64 (p2 n : Int)) ∧ w = w' := by
  go_enter Tryd.func62, Tryd.ntmps62
  go_wp2
  go_ret
  exact ⟨ret_u64 (wrap_pow n h), rfl⟩
theorem ref2All_any (n : Nat) (w : World) (h : n ≤ 64) :
    Calls Tryd.prog 40 #[.int .i64 n] w fun e w' => e = .returned (.int .u64 (allV n : Int)) ∧ w = w' := by
  have hv := wrap_allV n h
  by_cases h64 : n = 64
  · subst h64
    clear hv
    go_enter Tryd.func40, Tryd.ntmps40
    go_wp2
    go_ret
    exact ⟨ret_u64 (by decide), rfl⟩
  · go_enter Tryd.func40, Tryd.ntmps40
    go_wp2
    go_ret
    exact ⟨rfl, rfl⟩
set_option maxRecDepth 100000 in
set_option maxHeartbeats 1600000 in
theorem check_any (n : Int) (l : List Nat) (A : Option Addr) (m c B : Nat) (w : World) (hR : Reads w B 1 A m (us l)) (hw : Words l) (hm : m ≤ maxLen) :
    Calls Tryd.prog 13 #[.int .i64 n, .slice A m c] w fun e w' => e = .returned (.int .i64 (relErr n l)) ∧ w = w' := by
  unfold maxLen at hm
  have hlen := hR.word_len
  by_cases h0 : n < 0
  · have HV : Hid (relErr n l = 2) := Lib.hid (by unfold relErr; rw [if_pos (by omega)])
    clear hw
    go_enter Tryd.func13, Tryd.ntmps13
    go_wp2
    go_ret
    exact ⟨ret_i64 HV.out.symm, rfl⟩
  · by_cases h1 : 64 < n
    · have HV : Hid (relErr n l = 2) := Lib.hid (by unfold relErr; rw [if_pos (by omega)])
      clear hw
      go_enter Tryd.func13, Tryd.ntmps13
      go_wp2
      go_ret
      exact ⟨ret_i64 HV.out.symm, rfl⟩
    · by_cases h2 : (m : Int) = n
      · subst h2
        have HL := Lib.hid hlen
        have HW := Lib.hid hw
        have HA := Lib.hid (relAll_any m w (by omega))
        have HV : Hid (relErr m l = if inN m l then 0 else 1) := Lib.hid (by unfold relErr; rw [if_neg (by omega), if_neg (by omega)]; rfl)
        clear hlen hw h0
        go_enter Tryd.func13, Tryd.ntmps13
        go_wp2
        go_loop [19] (fun i => ∃ k : Nat, k ≤ m ∧ i = .int .i64 k ∧ Hid (inN m l = inN m (l.drop k))) (fun i => m - (intOf i).toNat)
        case atStart => exact ⟨0, Nat.zero_le _, rfl, Lib.hid rfl⟩
        case round =>
          obtain ⟨k, hk, rfl, HI⟩ := hrel
          by_cases hlt : k < m
          · obtain ⟨ad, x, rfl, hb, hkl, hx, hxm, hd, hc⟩ := hR.word_at hlt
            have hxw := HW.out x hxm
            have hout := outside_in x m hxw (by omega)
            have HD := Lib.hid hd
            clear hx hxm hd hkl
            by_cases hin : x < 2 ^ m
            · have ho : (bits .andNot .u64 (x : Int) (allV m : Int) != 0) = false := by rw [hout]; simp [hin]
              have HI2 : Hid (inN m l = inN m (l.drop (k + 1))) := Lib.hid (by rw [HI.out, HD.out, inN, List.all_cons, decide_eq_true hin, Bool.true_and]; rfl)
              clear hout hin
              go_wp2_with (go_at_call 45; refine (HA.out).mono ?_; rintro e w' ⟨rfl, rfl⟩)
              go_round
              case rel => exact ⟨k + 1, by omega, by go_num, HI2⟩
              case measure => simp [intOf]; omega
            · have ho : (bits .andNot .u64 (x : Int) (allV m : Int) != 0) = true := by rw [hout]; simp [hin]
              have HE : Hid (inN m l = false) := Lib.hid (by rw [HI.out, HD.out, inN, List.all_cons, decide_eq_false hin, Bool.false_and])
              clear hout hin
              go_wp2_with (go_at_call 45; refine (HA.out).mono ?_; rintro e w' ⟨rfl, rfl⟩)
              go_ret
              exact ⟨ret_i64 (by rw [HV.out, HE.out]; rfl), rfl⟩
          · have HE : Hid (inN m l = true) := Lib.hid (by rw [HI.out, List.drop_eq_nil_of_le (by have := HL.out; omega)]; rfl)
            go_wp2
            go_ret
            exact ⟨ret_i64 (by rw [HV.out, HE.out]; rfl), rfl⟩
      · have HV : Hid (relErr n l = 3) := Lib.hid (by unfold relErr; rw [if_neg (by omega), if_pos (by omega)])
        clear hw
        go_enter Tryd.func13, Tryd.ntmps13
        go_wp2
        go_ret
        exact ⟨ret_i64 HV.out.symm, rfl⟩
set_option maxRecDepth 100000 in
set_option maxHeartbeats 1600000 in
theorem ref2Check_any (n : Int) (l : List Nat) (A : Option Addr) (m c B : Nat) (w : World) (hR : Reads w B 1 A m (us l)) (hw : Words l) (hm : m ≤ maxLen) :
    Calls Tryd.prog 14 #[.int .i64 n, .slice A m c] w fun e w' => e = .returned (.int .i64 (relErr n l)) ∧ ∃ q, w' = w.drewN q := by
  unfold maxLen at hm
  have hlen := hR.word_len
  by_cases h0 : n < 0
  · have HV : Hid (relErr n l = 2) := Lib.hid (by unfold relErr; rw [if_pos (by omega)])
    clear hw
    go_enter Tryd.func14, Tryd.ntmps14
    go_wp2
    go_ret
    exact ⟨ret_i64 HV.out.symm, ⟨0, rfl⟩⟩
  · by_cases h1 : 64 < n
    · have HV : Hid (relErr n l = 2) := Lib.hid (by unfold relErr; rw [if_pos (by omega)])
      clear hw
      go_enter Tryd.func14, Tryd.ntmps14
      go_wp2
      go_ret
      exact ⟨ret_i64 HV.out.symm, ⟨0, rfl⟩⟩
    · by_cases h2 : (m : Int) = n
      · subst h2
        have HL := Lib.hid hlen
        have HW := Lib.hid hw
        have HA := Lib.hid (fun w => ref2All_any m w (by omega))
        have HV : Hid (relErr m l = if inN m l then 0 else 1) := Lib.hid (by unfold relErr; rw [if_neg (by omega), if_neg (by omega)]; rfl)
        clear hlen hw h0
        go_enter Tryd.func14, Tryd.ntmps14
        go_wp2
        go_loopw [5] (fun i wr => ∃ k q : Nat, k ≤ m ∧ i = .int .i64 k ∧ Hid (inN m l = inN m (l.drop k)) ∧ wr = w.drewN q) (fun i _ => m - (intOf i).toNat)
        case atStart => exact ⟨0, 0, Nat.zero_le _, rfl, Lib.hid rfl, rfl⟩
        case round =>
          obtain ⟨k, q, hk, rfl, HI, rfl⟩ := hrel
          by_cases hlt : k < m
          · obtain ⟨ad, x, rfl, hb, hkl, hx, hxm, hd, hc⟩ := hR.word_at hlt
            have hxw := HW.out x hxm
            have hout := outside_in x m hxw (by omega)
            have HD := Lib.hid hd
            clear hx hxm hd hkl
            by_cases hin : x < 2 ^ m
            · have ho : (bits .andNot .u64 (x : Int) (allV m : Int) != 0) = false := by rw [hout]; simp [hin]
              have HI2 : Hid (inN m l = inN m (l.drop (k + 1))) := Lib.hid (by rw [HI.out, HD.out, inN, List.all_cons, decide_eq_true hin, Bool.true_and]; rfl)
              clear hout hin
              go_wp2
              go_quiet (first | (go_at_call 40; exact quiet_same (HA.out _)))
              go_wp2
              go_roundw
              case rel => exact ⟨k + 1, q + nq, by omega, by go_num, HI2, by first | rfl | rw [World.drewN_drewN]⟩
              case measure => simp [intOf]; omega
            · have ho : (bits .andNot .u64 (x : Int) (allV m : Int) != 0) = true := by rw [hout]; simp [hin]
              have HE : Hid (inN m l = false) := Lib.hid (by rw [HI.out, HD.out, inN, List.all_cons, decide_eq_false hin, Bool.false_and])
              clear hout hin
              go_wp2
              go_quiet (first | (go_at_call 40; exact quiet_same (HA.out _)))
              go_wp2
              go_ret
              exact ⟨ret_i64 (by rw [HV.out, HE.out]; rfl), ⟨q + nq, by first | rfl | rw [World.drewN_drewN]⟩⟩
          · have HE : Hid (inN m l = true) := Lib.hid (by rw [HI.out, List.drop_eq_nil_of_le (by have := HL.out; omega)]; rfl)
            go_wp2
            go_ret
            exact ⟨ret_i64 (by rw [HV.out, HE.out]; rfl), ⟨_, rfl⟩⟩
      · have HV : Hid (relErr n l = 3) := Lib.hid (by unfold relErr; rw [if_neg (by omega), if_pos (by omega)])
        clear hw
        go_enter Tryd.func14, Tryd.ntmps14
        go_wp2
        go_ret
        exact ⟨ret_i64 HV.out.symm, ⟨0, rfl⟩⟩
theorem valid_any (l : List Nat) (A : Option Addr) (m c B : Nat) (w : World) (hR : Reads w B 1 A m (us l)) (hw : Words l) (hm : m ≤ maxLen) :
    Calls Tryd.prog 46 #[.slice A m c] w fun e w' => e = .returned (.bool (decide (relErr m l = 0))) ∧ w = w' := by
  have H := Lib.hid (check_any m l A m c B w hR hw hm)
  clear hw hR
  go_enter Tryd.func46, Tryd.ntmps46
  go_wp2_with fail
  refine (H.out).mono ?_
  rintro e w' ⟨rfl, rfl⟩
  go_wp2
  go_ret
  exact ⟨ret_bool (by first | rfl | (rw [Bool.eq_iff_iff]; simp)), rfl⟩
theorem ref2Valid_any (l : List Nat) (A : Option Addr) (m c B : Nat) (w : World) (hR : Reads w B 1 A m (us l)) (hw : Words l) (hm : m ≤ maxLen) :
    Calls Tryd.prog 53 #[.slice A m c] w fun e w' => e = .returned (.bool (decide (relErr m l = 0))) ∧ ∃ q, w' = w.drewN q := by
  have H := Lib.hid (ref2Check_any m l A m c B w hR hw hm)
  clear hw hR
  go_enter Tryd.func53, Tryd.ntmps53
  go_wp2_with fail
  refine (H.out).mono ?_
  rintro e w' ⟨rfl, ⟨q, rfl⟩⟩
  go_wp2
  go_ret
  exact ⟨ret_bool (by first | rfl | (rw [Bool.eq_iff_iff]; simp)), ⟨_, rfl⟩⟩
/-- the first error of two relations -/
def twoErr (l m : List Nat) : Int := if relErr l.length l ≠ 0 then relErr l.length l else if relErr m.length m ≠ 0 then relErr m.length m else if l.length ≠ m.length then 1 else 0
theorem checkBoth_any (l l2 : List Nat) (A A2 : Option Addr) (m c m2 c2 B : Nat) (w : World) (hR : Reads w B 1 A m (us l)) (hR2 : Reads w B 1 A2 m2 (us l2)) (hw : Words l) (hw2 : Words l2) (hm : m ≤ maxLen) (hm2 : m2 ≤ maxLen) :
    Calls Tryd.prog 76 #[.slice A m c, .slice A2 m2 c2] w fun e w' => e = .returned (.int .i64 (twoErr l l2)) ∧ w = w' := by
  have e1 := hR.word_len
  have e2 := hR2.word_len
  have H := Lib.hid (check_any m l A m c B w hR hw hm)
  have H2 := Lib.hid (check_any m2 l2 A2 m2 c2 B w hR2 hw2 hm2)
  have HT : Hid (twoErr l l2 = if relErr m l ≠ 0 then relErr m l else if relErr m2 l2 ≠ 0 then relErr m2 l2 else if m ≠ m2 then 1 else 0) := Lib.hid (by unfold twoErr; rw [e1, e2])
  generalize twoErr l l2 = t at *
  generalize relErr m l = a at *
  generalize relErr m2 l2 = b at *
  clear hw hw2 hR hR2 e1 e2
  by_cases h1 : a = 0
  · subst h1
    by_cases h2 : b = 0
    · subst h2
      by_cases h3 : m = m2
      · subst h3
        go_enter Tryd.func76, Tryd.ntmps76
        go_wp2_with fail
        refine (H.out).mono ?_
        rintro e w' ⟨rfl, rfl⟩
        go_wp2_with fail
        refine (H2.out).mono ?_
        rintro e w' ⟨rfl, rfl⟩
        go_wp2
        go_ret
        exact ⟨ret_i64 (by rw [HT.out]; simp), rfl⟩
      · go_enter Tryd.func76, Tryd.ntmps76
        go_wp2_with fail
        refine (H.out).mono ?_
        rintro e w' ⟨rfl, rfl⟩
        go_wp2_with fail
        refine (H2.out).mono ?_
        rintro e w' ⟨rfl, rfl⟩
        have h4 : ((m : Int) != (m2 : Int)) = true := by simp; omega
        go_wp2
        go_ret
        exact ⟨ret_i64 (by rw [HT.out]; simp [h3]), rfl⟩
    · have h4 : (b != 0) = true := by simp [h2]
      go_enter Tryd.func76, Tryd.ntmps76
      go_wp2_with fail
      refine (H.out).mono ?_
      rintro e w' ⟨rfl, rfl⟩
      go_wp2_with fail
      refine (H2.out).mono ?_
      rintro e w' ⟨rfl, rfl⟩
      go_wp2
      go_ret
      exact ⟨ret_i64 (by rw [HT.out]; simp [h2]), rfl⟩
  · have h4 : (a != 0) = true := by simp [h1]
    go_enter Tryd.func76, Tryd.ntmps76
    go_wp2_with fail
    refine (H.out).mono ?_
    rintro e w' ⟨rfl, rfl⟩
    go_wp2
    go_ret
    exact ⟨ret_i64 (by rw [HT.out]; simp [h1]), rfl⟩
theorem two_any (l l2 : List Nat) (A A2 : Option Addr) (m c m2 c2 B : Nat) (w : World) (hR : Reads w B 1 A m (us l)) (hR2 : Reads w B 1 A2 m2 (us l2)) (hw : Words l) (hw2 : Words l2) (hm : m ≤ maxLen) (hm2 : m2 ≤ maxLen) :
    Calls Tryd.prog 57 #[.slice A m c, .slice A2 m2 c2] w fun e w' => e = .returned (.int .i64 (twoErr l l2)) ∧ ∃ q, w' = w.drewN q := by
  have e1 := hR.word_len
  have e2 := hR2.word_len
  have H := Lib.hid (ref2Check_any m l A m c B w hR hw hm)
  have H2 := Lib.hid (fun q => ref2Check_any m2 l2 A2 m2 c2 B (w.drewN q) (hR2.drewN q) hw2 hm2)
  have HT : Hid (twoErr l l2 = if relErr m l ≠ 0 then relErr m l else if relErr m2 l2 ≠ 0 then relErr m2 l2 else if m ≠ m2 then 1 else 0) := Lib.hid (by unfold twoErr; rw [e1, e2])
  generalize twoErr l l2 = t at *
  generalize relErr m l = a at *
  generalize relErr m2 l2 = b at *
  clear hw hw2 hR hR2 e1 e2
  by_cases h1 : a = 0
  · subst h1
    by_cases h2 : b = 0
    · subst h2
      by_cases h3 : m = m2
      · subst h3
        go_enter Tryd.func57, Tryd.ntmps57
        go_wp2_with fail
        refine (H.out).mono ?_
        rintro e w' ⟨rfl, ⟨q, rfl⟩⟩
        go_wp2_with fail
        refine (H2.out _).mono ?_
        rintro e w' ⟨rfl, ⟨q, rfl⟩⟩
        go_wp2
        go_ret
        exact ⟨ret_i64 (by rw [HT.out]; simp), ⟨_, rfl⟩⟩
      · go_enter Tryd.func57, Tryd.ntmps57
        go_wp2_with fail
        refine (H.out).mono ?_
        rintro e w' ⟨rfl, ⟨q, rfl⟩⟩
        go_wp2_with fail
        refine (H2.out _).mono ?_
        rintro e w' ⟨rfl, ⟨q, rfl⟩⟩
        have h4 : ((m : Int) != (m2 : Int)) = true := by simp; omega
        go_wp2
        go_ret
        exact ⟨ret_i64 (by rw [HT.out]; simp [h3]), ⟨_, rfl⟩⟩
    · have h4 : (b != 0) = true := by simp [h2]
      go_enter Tryd.func57, Tryd.ntmps57
      go_wp2_with fail
      refine (H.out).mono ?_
      rintro e w' ⟨rfl, ⟨q, rfl⟩⟩
      go_wp2_with fail
      refine (H2.out _).mono ?_
      rintro e w' ⟨rfl, ⟨q, rfl⟩⟩
      go_wp2
      go_ret
      exact ⟨ret_i64 (by rw [HT.out]; simp [h2]), ⟨_, rfl⟩⟩
  · have h4 : (a != 0) = true := by simp [h1]
    go_enter Tryd.func57, Tryd.ntmps57
    go_wp2_with fail
    refine (H.out).mono ?_
    rintro e w' ⟨rfl, ⟨q, rfl⟩⟩
    go_wp2
    go_ret
    exact ⟨ret_i64 (by rw [HT.out]; simp [h1]), ⟨_, rfl⟩⟩
end Go.Proofs.YtogjbghieoifjaaDoor
