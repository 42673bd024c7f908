/- Layer 6: texts joined: Sa Sb Sc Ua Ub Uc. -/
import Derived.Test.YtenbhalnpiahaaaGreatDoorJa
import Derived.Lib.SlicesS
import Derived.Shelf.Spec.SlicesGrow
import Derived.Laws.AppendOwnNone
import Derived.Shelf.Strings.Prefix
import Derived.Shelf.Small.Strs
import Derived.Shelf.Lay
/- Layer 4: lists of strings in cells; letters, digits, the search of a string in a list. -/
namespace Go.Proofs.YtenbhalnpiahaaaGreatDoor
open Go.RowKit Go.Proofs.Ws
/-- a list of strings in cells -/
def ss (l : List ByteArray) : List Value := l.map Value.string
theorem ss_length (l : List ByteArray) : (ss l).length = l.length := by simp [ss]
theorem ss_append (l m : List ByteArray) : ss (l ++ m) = ss l ++ ss m := by simp [ss]
theorem Reads.str_len {w : World} {B n : Nat} {A : Option Addr} {l : List ByteArray} (h : Reads w B 1 A n (ss l)) : l.length = n := by
  have := h.1; rw [ss_length] at this; omega
theorem Reads.str_at {w : World} {B n : Nat} {A : Option Addr} {l : List ByteArray} (h : Reads w B 1 A n (ss l)) {k : Nat} (hk : k < n) :
    ∃ ad, A = some ad ∧ ad.block < B ∧ w.cell? (ad.add k) = some (.string (l.getD k ByteArray.empty)) := by
  obtain ⟨ad, u, hA, hb, hu, hc⟩ := h.at_ hk
  unfold ss at hu
  rw [List.getElem?_map] at hu
  obtain ⟨z, hz, rfl⟩ := Option.map_eq_some_iff.1 hu
  exact ⟨ad, hA, hb, by rw [List.getD_eq_getElem?_getD, hz]; exact hc⟩
theorem beq_str {x y : ByteArray} (h : x = y) : (x.toList == y.toList) = true := (Lib.bytes_beq_iff x y).2 h
theorem bne_str {x y : ByteArray} (h : x ≠ y) : (x.toList == y.toList) = false := (Lib.bytes_beq_false_iff x y).2 h
theorem pLetter_any (m : Nat) (w : World) : Calls Tryz.prog 88 #[.int .u8 m] w fun e w' => e = .returned (.bool (lowN m)) ∧ w = w' := by
  by_cases h1 : 97 ≤ m
  · by_cases h2 : m ≤ 122
    · have HB := Lib.hid (show lowN m = true by unfold lowN; rw [decide_eq_true h1, decide_eq_true h2]; rfl)
      have d1 : decide ((97 : Int) ≤ (m : Int)) = true := by simp; omega
      have d2 : decide ((m : Int) ≤ 122) = true := by simp; omega
      clear h1 h2
      go_enter Tryz.func88, Tryz.ntmps88
      go_wp2
      go_ret
      exact ⟨ret_bool HB.out.symm, rfl⟩
    · have HB := Lib.hid (show lowN m = false by unfold lowN; rw [decide_eq_false h2, Bool.and_false])
      have d1 : decide ((97 : Int) ≤ (m : Int)) = true := by simp; omega
      have d2 : decide ((m : Int) ≤ 122) = false := by simp; omega
      clear h1 h2
      go_enter Tryz.func88, Tryz.ntmps88
      go_wp2
      go_ret
      exact ⟨ret_bool HB.out.symm, rfl⟩
  · have HB := Lib.hid (show lowN m = false by unfold lowN; rw [decide_eq_false h1, Bool.false_and])
    have d1 : decide ((97 : Int) ≤ (m : Int)) = false := by simp; omega
    clear h1
    go_enter Tryz.func88, Tryz.ntmps88
    go_wp2
    go_ret
    exact ⟨ret_bool HB.out.symm, rfl⟩
theorem pDigit_any (m : Nat) (w : World) : Calls Tryz.prog 89 #[.int .u8 m] w fun e w' => e = .returned (.bool (digN m)) ∧ w = w' := by
  by_cases h1 : 48 ≤ m
  · by_cases h2 : m ≤ 57
    · have HB := Lib.hid (show digN m = true by unfold digN; rw [decide_eq_true h1, decide_eq_true h2]; rfl)
      have d1 : decide ((48 : Int) ≤ (m : Int)) = true := by simp; omega
      have d2 : decide ((m : Int) ≤ 57) = true := by simp; omega
      clear h1 h2
      go_enter Tryz.func89, Tryz.ntmps89
      go_wp2
      go_ret
      exact ⟨ret_bool HB.out.symm, rfl⟩
    · have HB := Lib.hid (show digN m = false by unfold digN; rw [decide_eq_false h2, Bool.and_false])
      have d1 : decide ((48 : Int) ≤ (m : Int)) = true := by simp; omega
      have d2 : decide ((m : Int) ≤ 57) = false := by simp; omega
      clear h1 h2
      go_enter Tryz.func89, Tryz.ntmps89
      go_wp2
      go_ret
      exact ⟨ret_bool HB.out.symm, rfl⟩
  · have HB := Lib.hid (show digN m = false by unfold digN; rw [decide_eq_false h1, Bool.false_and])
    have d1 : decide ((48 : Int) ≤ (m : Int)) = false := by simp; omega
    clear h1
    go_enter Tryz.func89, Tryz.ntmps89
    go_wp2
    go_ret
    exact ⟨ret_bool HB.out.symm, rfl⟩
theorem idx_done {l : List ByteArray} {x : ByteArray} (h : ∀ j, j < l.length → l.getD j ByteArray.empty ≠ x) : Lib.idxOfS l x = -1 := by
  have := Lib.idxOfS_miss l l.length x h
  rwa [List.take_length] at this
theorem idx_found {l : List ByteArray} {x : ByteArray} {k : Nat} (hk : k < l.length) (hx : l.getD k ByteArray.empty = x) (h : ∀ j, j < k → l.getD j ByteArray.empty ≠ x) : Lib.idxOfS l x = (k : Nat) := by
  have := Lib.idxOfS_hit l l.length k x hk (Nat.le_refl _) hx h
  rwa [List.take_length] at this
set_option maxRecDepth 100000 in
theorem pIndex_any (l : List ByteArray) (x : ByteArray) (A : Option Addr) (n c B : Nat) (w : World) (hR : Reads w B 1 A n (ss l)) (hm : n ≤ maxLen) :
    Calls Tryz.prog 90 #[.slice A n c, .string x] w fun e w' => e = .returned (.int .i64 (Lib.idxOfS l x)) ∧ w = w' := by
  unfold maxLen at hm
  have hl := hR.str_len
  have HD := Lib.hid (fun h => idx_done (l := l) (x := x) h)
  have HF := Lib.hid (fun k (hk : k < n) => idx_found (l := l) (x := x) (k := k) (by omega))
  have HL := Lib.hid hl
  clear hl
  go_enter Tryz.func90, Tryz.ntmps90
  go_wp2
  go_loopw [8] (fun i wr => ∃ k : Nat, k ≤ n ∧ i = .int .i64 k ∧ Hid (∀ j, j < k → l.getD j ByteArray.empty ≠ x) ∧ wr = w) (fun i _ => n - (intOf i).toNat)
  case atStart => exact ⟨0, Nat.zero_le _, rfl, Lib.hid (fun i hi => absurd hi (by omega)), rfl⟩
  case round =>
    obtain ⟨k, hk, rfl, HI, rfl⟩ := hrel
    by_cases hlt : k < n
    · obtain ⟨ad, rfl, hb, hc⟩ := hR.str_at hlt
      by_cases he : l.getD k ByteArray.empty = x
      · have HB := Lib.hid (HF.out k hlt he HI.out)
        have hq := beq_str he.symm
        generalize l.getD k ByteArray.empty = z at *
        clear he
        go_wp2
        go_ret
        exact ⟨ret_i64 HB.out.symm, rfl⟩
      · have HN : Hid (∀ j, j < k + 1 → l.getD j ByteArray.empty ≠ x) := Lib.hid (fun j hj => by
          by_cases e : j = k
          · subst e; exact he
          · exact HI.out j (by omega))
        have hq := bne_str (fun e => he e.symm)
        generalize l.getD k ByteArray.empty = z at *
        clear he HI
        go_wp2
        go_roundw
        case rel => exact ⟨k + 1, by omega, by go_num, HN, by first | rfl | trivial⟩
        case measure => simp [intOf]; omega
    · have HB := Lib.hid (HD.out (fun j hj => HI.out j (by have := HL.out; omega)))
      clear HI
      go_wp2
      go_ret
      exact ⟨ret_i64 HB.out.symm, rfl⟩
theorem pContains_any (l : List ByteArray) (x : ByteArray) (A : Option Addr) (n c B : Nat) (w : World) (hR : Reads w B 1 A n (ss l)) (hm : n ≤ maxLen) :
    Calls Tryz.prog 54 #[.slice A n c, .string x] w fun e w' => e = .returned (.bool (Lib.containsS l x)) ∧ w = w' := by
  have HX := Lib.hid (pIndex_any l x A n c B w hR hm)
  have HB : Hid (Lib.containsS l x = decide (0 ≤ Lib.idxOfS l x)) := Lib.hid rfl
  generalize Lib.idxOfS l x = z at *
  clear hR hm
  go_enter Tryz.func54, Tryz.ntmps54
  go_wp2_with fail
  refine (HX.out).mono ?_
  rintro e w' ⟨rfl, rfl⟩
  go_wp2
  go_ret
  exact ⟨ret_bool HB.out.symm, rfl⟩
set_option maxRecDepth 100000 in
theorem pRefFind_any (l : List ByteArray) (x : ByteArray) (A : Option Addr) (n c B : Nat) (w : World) (hR : Reads w B 1 A n (ss l)) (hm : n ≤ maxLen) :
    Calls Tryz.prog 64 #[.slice A n c, .string x] w fun e w' => e = .returned (.int .i64 (Lib.idxOfS l x)) ∧ w = w' := by
  unfold maxLen at hm
  have hl := hR.str_len
  have HD := Lib.hid (fun h => idx_done (l := l) (x := x) h)
  have HF := Lib.hid (fun k (hk : k < n) => idx_found (l := l) (x := x) (k := k) (by omega))
  have HL := Lib.hid hl
  clear hl
  go_enter Tryz.func64, Tryz.ntmps64
  go_wp2
  go_loopw [5] (fun i wr => ∃ k : Nat, k ≤ n ∧ i = .int .i64 k ∧ Hid (∀ j, j < k → l.getD j ByteArray.empty ≠ x) ∧ wr = w) (fun i _ => n - (intOf i).toNat)
  case atStart => exact ⟨0, Nat.zero_le _, rfl, Lib.hid (fun i hi => absurd hi (by omega)), rfl⟩
  case round =>
    obtain ⟨k, hk, rfl, HI, rfl⟩ := hrel
    by_cases hlt : k < n
    · obtain ⟨ad, rfl, hb, hc⟩ := hR.str_at hlt
      by_cases he : l.getD k ByteArray.empty = x
      · have HB := Lib.hid (HF.out k hlt he HI.out)
        have hq := beq_str he
        generalize l.getD k ByteArray.empty = z at *
        clear he
        go_wp2
        go_ret
        exact ⟨ret_i64 HB.out.symm, rfl⟩
      · have HN : Hid (∀ j, j < k + 1 → l.getD j ByteArray.empty ≠ x) := Lib.hid (fun j hj => by
          by_cases e : j = k
          · subst e; exact he
          · exact HI.out j (by omega))
        have hq := bne_str he
        generalize l.getD k ByteArray.empty = z at *
        clear he HI
        go_wp2
        go_roundw
        case rel => exact ⟨k + 1, by omega, by go_num, HN, by first | rfl | trivial⟩
        case measure => simp [intOf]; omega
    · have HB := Lib.hid (HD.out (fun j hj => HI.out j (by have := HL.out; omega)))
      clear HI
      go_wp2
      go_ret
      exact ⟨ret_i64 HB.out.symm, rfl⟩
end Go.Proofs.YtenbhalnpiahaaaGreatDoor
/- Layer 4: names, on both sides. -/
namespace Go.Proofs.YtenbhalnpiahaaaGreatDoor
open Go.RowKit Go.Proofs.Ws
theorem ba_len (x : ByteArray) : x.data.toList.length = x.size := Array.length_toList
theorem chr_at (x : ByteArray) (k : Nat) (h : k < x.size) : x.data.toList[k]? = some x[k] := by
  rw [List.getElem?_eq_getElem (by rw [ba_len]; exact h)]
  simp [ByteArray.getElem_eq_getElem_data]
theorem name_no0 {x : ByteArray} (h : x.size = 0) : nameV x = false := by
  unfold nameV nameL
  rw [decide_eq_false (by rw [ba_len]; omega)]; rfl
theorem name_no8 {x : ByteArray} (h : 8 < x.size) : nameV x = false := by
  unfold nameV nameL
  rw [decide_eq_false (show ¬ x.data.toList.length ≤ 8 by rw [ba_len]; omega), Bool.and_false]; rfl
theorem name_noL {x : ByteArray} (h : 0 < x.size) (hl : lowN x[0].toNat = false) : nameV x = false := by
  unfold nameV nameL
  rw [List.getD_eq_getElem?_getD, chr_at x 0 h]
  simp only [Option.getD_some]
  rw [hl, Bool.and_false, Bool.false_and]
theorem name_noC {x : ByteArray} {k : Nat} (h : k < x.size) (hl : chN x[k].toNat = false) : nameV x = false := by
  unfold nameV nameL
  have : x.data.toList.all (fun c => chN c.toNat) = false := List.all_eq_false.2 ⟨x[k], List.mem_of_getElem? (chr_at x k h), by simp [hl]⟩
  rw [this, Bool.and_false]
theorem name_yes {x : ByteArray} (h0 : 0 < x.size) (h8 : x.size ≤ 8) (hl : lowN x[0].toNat = true) (hc : ∀ k (h : k < x.size), chN x[k].toNat = true) : nameV x = true := by
  unfold nameV nameL
  rw [List.getD_eq_getElem?_getD, chr_at x 0 h0]
  simp only [Option.getD_some]
  rw [hl, decide_eq_true (by rw [ba_len]; omega), decide_eq_true (by rw [ba_len]; omega), Bool.true_and, Bool.true_and, Bool.true_and, List.all_eq_true]
  intro c hm
  obtain ⟨k, hk, rfl⟩ := List.mem_iff_getElem.1 hm
  rw [ba_len] at hk
  have h1 := chr_at x k hk
  rw [List.getElem?_eq_getElem (by rw [ba_len]; exact hk)] at h1
  injection h1 with h1
  rw [h1]
  exact hc k hk
theorem chN_iff (m : Nat) : chN m = (lowN m || digN m || decide (m = 95)) := rfl
set_option maxRecDepth 100000 in
theorem pIsName_any (x : ByteArray) (w : World) (hm : x.size ≤ maxLen) :
    Calls Tryz.prog 52 #[.string x] w fun e w' => e = .returned (.bool (nameV x)) ∧ w = w' := by
  unfold maxLen at hm
  by_cases h0 : x.size = 0
  · have HB := Lib.hid (name_no0 h0)
    have hie : x.toList.isEmpty = true := by
      rw [Lib.toList_data, List.isEmpty_iff, ← List.length_eq_zero_iff, ba_len]; exact h0
    clear h0
    go_enter Tryz.func52, Tryz.ntmps52
    go_wp2
    go_ret
    exact ⟨ret_bool HB.out.symm, rfl⟩
  · have hie : x.toList.isEmpty = false := by
      rw [Lib.toList_data]
      cases h : x.data.toList with
      | nil => exact absurd (by rw [← ba_len, h]; rfl) h0
      | cons _ _ => rfl
    have hpos : 0 < x.size := by omega
    by_cases h8 : 8 < x.size
    · have HB := Lib.hid (name_no8 h8)
      have hd : decide ((8 : Int) < (x.size : Int)) = true := by simp; omega
      clear h0 h8
      go_enter Tryz.func52, Tryz.ntmps52
      go_wp2
      go_ret
      exact ⟨ret_bool HB.out.symm, rfl⟩
    · have hd : decide ((8 : Int) < (x.size : Int)) = false := by simp; omega
      have HL := Lib.hid (fun W => pLetter_any x[0].toNat W)
      cases hl : lowN x[0].toNat with
      | false =>
        have HB := Lib.hid (name_noL hpos hl)
        rw [hl] at HL
        clear hl h0 h8
        go_enter Tryz.func52, Tryz.ntmps52
        go_wp2_with fail
        refine (HL.out _).mono ?_
        rintro e w' ⟨rfl, rfl⟩
        go_wp2
        go_ret
        exact ⟨ret_bool HB.out.symm, rfl⟩
      | true =>
        have HY := Lib.hid (name_yes hpos (by omega) hl)
        have HN := Lib.hid (fun k (h : k < x.size) => name_noC (x := x) (k := k) h)
        rw [hl] at HL
        clear hl h0 h8
        go_enter Tryz.func52, Tryz.ntmps52
        go_wp2_with fail
        refine (HL.out _).mono ?_
        rintro e w' ⟨rfl, rfl⟩
        clear HL
        go_wp2
        go_loopw [20] (fun i wr => ∃ k : Nat, k ≤ x.size ∧ i = .int .i64 k ∧ Hid (∀ j (h : j < x.size), j < k → chN x[j].toNat = true) ∧ wr = w) (fun i _ => x.size - (intOf i).toNat)
        case atStart => exact ⟨0, Nat.zero_le _, rfl, Lib.hid (fun j _ hj => absurd hj (by omega)), rfl⟩
        case round =>
          obtain ⟨k, hk, rfl, HI, rfl⟩ := hrel
          by_cases hlt : k < x.size
          · have HL := Lib.hid (fun W => pLetter_any x[k].toNat W)
            have HD := Lib.hid (fun W => pDigit_any x[k].toNat W)
            cases hc : chN x[k].toNat with
            | false =>
              have HB := Lib.hid (HN.out k hlt hc)
              have hc' := hc
              rw [chN_iff, Bool.or_eq_false_iff, Bool.or_eq_false_iff] at hc'
              obtain ⟨⟨c1, c2⟩, c3⟩ := hc'
              rw [c1] at HL
              rw [c2] at HD
              have hne : ((x[k].toNat : Int) != 95) = true := by
                rw [bne_iff_ne]; intro e
                have := of_decide_eq_false c3
                omega
              clear hc c1 c2 c3 HI HY
              go_wp2_with (first | (go_at_call 88; refine (HL.out _).mono ?_; rintro e w' ⟨rfl, rfl⟩) | (go_at_call 89; refine (HD.out _).mono ?_; rintro e w' ⟨rfl, rfl⟩))
              go_ret
              exact ⟨ret_bool HB.out.symm, rfl⟩
            | true =>
              have HC : Hid (∀ j (h : j < x.size), j < k + 1 → chN x[j].toNat = true) := Lib.hid (fun j h hj => by
                by_cases e : j = k
                · subst e; exact hc
                · exact HI.out j h (by omega))
              clear HI HY
              cases hl1 : lowN x[k].toNat with
              | true =>
                rw [hl1] at HL
                clear hc hl1
                go_wp2_with (first | (go_at_call 88; refine (HL.out _).mono ?_; rintro e w' ⟨rfl, rfl⟩) | (go_at_call 89; refine (HD.out _).mono ?_; rintro e w' ⟨rfl, rfl⟩))
                go_roundw
                case rel => exact ⟨k + 1, by omega, by go_num, HC, by first | rfl | trivial⟩
                case measure => simp [intOf]; omega
              | false =>
                rw [hl1] at HL
                cases hd1 : digN x[k].toNat with
                | true =>
                  rw [hd1] at HD
                  clear hc hl1 hd1
                  go_wp2_with (first | (go_at_call 88; refine (HL.out _).mono ?_; rintro e w' ⟨rfl, rfl⟩) | (go_at_call 89; refine (HD.out _).mono ?_; rintro e w' ⟨rfl, rfl⟩))
                  go_roundw
                  case rel => exact ⟨k + 1, by omega, by go_num, HC, by first | rfl | trivial⟩
                  case measure => simp [intOf]; omega
                | false =>
                  rw [hd1] at HD
                  have heq : ((x[k].toNat : Int) != 95) = false := by
                    rw [chN_iff, hl1, hd1] at hc
                    have := of_decide_eq_true (by simpa using hc : decide (x[k].toNat = 95) = true)
                    rw [this]; rfl
                  clear hc hl1 hd1
                  go_wp2_with (first | (go_at_call 88; refine (HL.out _).mono ?_; rintro e w' ⟨rfl, rfl⟩) | (go_at_call 89; refine (HD.out _).mono ?_; rintro e w' ⟨rfl, rfl⟩))
                  go_roundw
                  case rel => exact ⟨k + 1, by omega, by go_num, HC, by first | rfl | trivial⟩
                  case measure => simp [intOf]; omega
          · have HB := Lib.hid (HY.out (fun j h => HI.out j h (by omega)))
            clear HI HY
            go_wp2
            go_ret
            exact ⟨ret_bool HB.out.symm, rfl⟩
set_option maxRecDepth 100000 in
set_option maxHeartbeats 6000000 in
theorem pRefIsName_any (x : ByteArray) (w : World) (hm : x.size ≤ maxLen) :
    Calls Tryz.prog 62 #[.string x] w fun e w' => e = .returned (.bool (nameV x)) ∧ w = w' := by
  unfold maxLen at hm
  by_cases h0 : x.size = 0
  · have HB := Lib.hid (name_no0 h0)
    have hd : decide ((x.size : Int) < 1) = true := by simp; omega
    clear h0
    go_enter Tryz.func62, Tryz.ntmps62
    go_wp2
    go_ret
    exact ⟨ret_bool HB.out.symm, rfl⟩
  · have hd0 : decide ((x.size : Int) < 1) = false := by simp; omega
    have hpos : 0 < x.size := by omega
    by_cases h8 : 8 < x.size
    · have HB := Lib.hid (name_no8 h8)
      have hd : decide ((8 : Int) < (x.size : Int)) = true := by simp; omega
      clear h0 h8
      go_enter Tryz.func62, Tryz.ntmps62
      go_wp2
      go_ret
      exact ⟨ret_bool HB.out.symm, rfl⟩
    · have hd : decide ((8 : Int) < (x.size : Int)) = false := by simp; omega
      have hm0 : x[0].toNat < 256 := x[0].toNat_lt
      cases hl : lowN x[0].toNat with
      | false =>
        have HB := Lib.hid (name_noL hpos hl)
        unfold lowN at hl
        clear h0 h8
        by_cases c1 : x[0].toNat < 97
        · have d1 : decide ((x[0].toNat : Int) < 97) = true := by simp; omega
          clear hl c1
          go_enter Tryz.func62, Tryz.ntmps62
          go_wp2
          go_ret
          exact ⟨ret_bool HB.out.symm, rfl⟩
        · have c2 : 122 < x[0].toNat := by
            rw [decide_eq_true (by omega), Bool.true_and, decide_eq_false_iff_not] at hl
            omega
          have d1 : decide ((x[0].toNat : Int) < 97) = false := by simp; omega
          have d2 : decide ((122 : Int) < (x[0].toNat : Int)) = true := by simp; omega
          clear hl c1 c2
          go_enter Tryz.func62, Tryz.ntmps62
          go_wp2
          go_ret
          exact ⟨ret_bool HB.out.symm, rfl⟩
      | true =>
        have HY := Lib.hid (name_yes hpos (by omega) hl)
        have HN := Lib.hid (fun k (h : k < x.size) => name_noC (x := x) (k := k) h)
        unfold lowN at hl
        rw [Bool.and_eq_true, decide_eq_true_eq, decide_eq_true_eq] at hl
        have d1 : decide ((x[0].toNat : Int) < 97) = false := by simp; omega
        have d2 : decide ((122 : Int) < (x[0].toNat : Int)) = false := by simp; omega
        clear hl h0 h8
        go_enter Tryz.func62, Tryz.ntmps62
        go_wp2
        clear d1 d2 hm0
        go_loopw [3] (fun i wr => ∃ k : Nat, k ≤ x.size ∧ i = .int .i64 k ∧ Hid (∀ j (h : j < x.size), j < k → chN x[j].toNat = true) ∧ wr = w) (fun i _ => x.size - (intOf i).toNat)
        case atStart => exact ⟨0, Nat.zero_le _, rfl, Lib.hid (fun j _ hj => absurd hj (by omega)), rfl⟩
        case round =>
          obtain ⟨k, hk, rfl, HI, rfl⟩ := hrel
          by_cases hlt : k < x.size
          · have hm0 : x[k].toNat < 256 := x[k].toNat_lt
            have HC : Hid (chN x[k].toNat = true → ∀ j (h : j < x.size), j < k + 1 → chN x[j].toNat = true) := Lib.hid (fun hc j h hj => by
              by_cases e : j = k
              · subst e; exact hc
              · exact HI.out j h (by omega))
            have HB := Lib.hid (HN.out k hlt)
            have HU := Lib.hid (show chN x[k].toNat = (decide (97 ≤ x[k].toNat) && decide (x[k].toNat ≤ 122) || decide (48 ≤ x[k].toNat) && decide (x[k].toNat ≤ 57) || decide (x[k].toNat = 95)) from rfl)
            clear HI HY HN
            by_cases h1 : x[k].toNat < 97
            · skip
              by_cases h3 : x[k].toNat < 48
              · skip
                by_cases h5 : x[k].toNat = 95
                · skip
                  have d1 : decide ((x[k].toNat : Int) < 97) = true := by simp; omega
                  have d3 : decide ((x[k].toNat : Int) < 48) = true := by simp; omega
                  have d5 : ((x[k].toNat : Int) != 95) = false := by simp; omega
                  have HC2 := Lib.hid (HC.out (by rw [HU.out]; simp; omega))
                  clear HU HC HB h1 h3 h5
                  go_wp2
                  go_roundw
                  case rel => exact ⟨k + 1, by omega, by go_num, HC2, by first | rfl | trivial⟩
                  case measure => simp [intOf]; omega
                · skip
                  have d1 : decide ((x[k].toNat : Int) < 97) = true := by simp; omega
                  have d3 : decide ((x[k].toNat : Int) < 48) = true := by simp; omega
                  have d5 : ((x[k].toNat : Int) != 95) = true := by rw [bne_iff_ne]; omega
                  have HB3 := Lib.hid (HB.out (by rw [HU.out]; simp; omega))
                  clear HU HC HB h1 h3 h5
                  go_wp2
                  go_ret
                  exact ⟨ret_bool HB3.out.symm, rfl⟩
              · by_cases h4 : 57 < x[k].toNat
                · skip
                  by_cases h5 : x[k].toNat = 95
                  · skip
                    have d1 : decide ((x[k].toNat : Int) < 97) = true := by simp; omega
                    have d3 : decide ((x[k].toNat : Int) < 48) = false := by simp; omega
                    have d4 : decide ((57 : Int) < (x[k].toNat : Int)) = true := by simp; omega
                    have d5 : ((x[k].toNat : Int) != 95) = false := by simp; omega
                    have HC2 := Lib.hid (HC.out (by rw [HU.out]; simp; omega))
                    clear HU HC HB h1 h3 h4 h5
                    go_wp2
                    go_roundw
                    case rel => exact ⟨k + 1, by omega, by go_num, HC2, by first | rfl | trivial⟩
                    case measure => simp [intOf]; omega
                  · skip
                    have d1 : decide ((x[k].toNat : Int) < 97) = true := by simp; omega
                    have d3 : decide ((x[k].toNat : Int) < 48) = false := by simp; omega
                    have d4 : decide ((57 : Int) < (x[k].toNat : Int)) = true := by simp; omega
                    have d5 : ((x[k].toNat : Int) != 95) = true := by rw [bne_iff_ne]; omega
                    have HB3 := Lib.hid (HB.out (by rw [HU.out]; simp; omega))
                    clear HU HC HB h1 h3 h4 h5
                    go_wp2
                    go_ret
                    exact ⟨ret_bool HB3.out.symm, rfl⟩
                · skip
                  have d1 : decide ((x[k].toNat : Int) < 97) = true := by simp; omega
                  have d3 : decide ((x[k].toNat : Int) < 48) = false := by simp; omega
                  have d4 : decide ((57 : Int) < (x[k].toNat : Int)) = false := by simp; omega
                  have HC2 := Lib.hid (HC.out (by rw [HU.out]; simp; omega))
                  clear HU HC HB h1 h3 h4
                  go_wp2
                  go_roundw
                  case rel => exact ⟨k + 1, by omega, by go_num, HC2, by first | rfl | trivial⟩
                  case measure => simp [intOf]; omega
            · by_cases h2 : 122 < x[k].toNat
              · skip
                by_cases h3 : x[k].toNat < 48
                · skip
                  by_cases h5 : x[k].toNat = 95
                  · skip
                    have d1 : decide ((x[k].toNat : Int) < 97) = false := by simp; omega
                    have d2 : decide ((122 : Int) < (x[k].toNat : Int)) = true := by simp; omega
                    have d3 : decide ((x[k].toNat : Int) < 48) = true := by simp; omega
                    have d5 : ((x[k].toNat : Int) != 95) = false := by simp; omega
                    have HC2 := Lib.hid (HC.out (by rw [HU.out]; simp; omega))
                    clear HU HC HB h1 h2 h3 h5
                    go_wp2
                    go_roundw
                    case rel => exact ⟨k + 1, by omega, by go_num, HC2, by first | rfl | trivial⟩
                    case measure => simp [intOf]; omega
                  · skip
                    have d1 : decide ((x[k].toNat : Int) < 97) = false := by simp; omega
                    have d2 : decide ((122 : Int) < (x[k].toNat : Int)) = true := by simp; omega
                    have d3 : decide ((x[k].toNat : Int) < 48) = true := by simp; omega
                    have d5 : ((x[k].toNat : Int) != 95) = true := by rw [bne_iff_ne]; omega
                    have HB3 := Lib.hid (HB.out (by rw [HU.out]; simp; omega))
                    clear HU HC HB h1 h2 h3 h5
                    go_wp2
                    go_ret
                    exact ⟨ret_bool HB3.out.symm, rfl⟩
                · by_cases h4 : 57 < x[k].toNat
                  · skip
                    by_cases h5 : x[k].toNat = 95
                    · skip
                      have d1 : decide ((x[k].toNat : Int) < 97) = false := by simp; omega
                      have d2 : decide ((122 : Int) < (x[k].toNat : Int)) = true := by simp; omega
                      have d3 : decide ((x[k].toNat : Int) < 48) = false := by simp; omega
                      have d4 : decide ((57 : Int) < (x[k].toNat : Int)) = true := by simp; omega
                      have d5 : ((x[k].toNat : Int) != 95) = false := by simp; omega
                      have HC2 := Lib.hid (HC.out (by rw [HU.out]; simp; omega))
                      clear HU HC HB h1 h2 h3 h4 h5
                      go_wp2
                      go_roundw
                      case rel => exact ⟨k + 1, by omega, by go_num, HC2, by first | rfl | trivial⟩
                      case measure => simp [intOf]; omega
                    · skip
                      have d1 : decide ((x[k].toNat : Int) < 97) = false := by simp; omega
                      have d2 : decide ((122 : Int) < (x[k].toNat : Int)) = true := by simp; omega
                      have d3 : decide ((x[k].toNat : Int) < 48) = false := by simp; omega
                      have d4 : decide ((57 : Int) < (x[k].toNat : Int)) = true := by simp; omega
                      have d5 : ((x[k].toNat : Int) != 95) = true := by rw [bne_iff_ne]; omega
                      have HB3 := Lib.hid (HB.out (by rw [HU.out]; simp; omega))
                      clear HU HC HB h1 h2 h3 h4 h5
                      go_wp2
                      go_ret
                      exact ⟨ret_bool HB3.out.symm, rfl⟩
                  · skip
                    have d1 : decide ((x[k].toNat : Int) < 97) = false := by simp; omega
                    have d2 : decide ((122 : Int) < (x[k].toNat : Int)) = true := by simp; omega
                    have d3 : decide ((x[k].toNat : Int) < 48) = false := by simp; omega
                    have d4 : decide ((57 : Int) < (x[k].toNat : Int)) = false := by simp; omega
                    have HC2 := Lib.hid (HC.out (by rw [HU.out]; simp; omega))
                    clear HU HC HB h1 h2 h3 h4
                    go_wp2
                    go_roundw
                    case rel => exact ⟨k + 1, by omega, by go_num, HC2, by first | rfl | trivial⟩
                    case measure => simp [intOf]; omega
              · skip
                have d1 : decide ((x[k].toNat : Int) < 97) = false := by simp; omega
                have d2 : decide ((122 : Int) < (x[k].toNat : Int)) = false := by simp; omega
                have HC2 := Lib.hid (HC.out (by rw [HU.out]; simp; omega))
                clear HU HC HB h1 h2
                go_wp2
                go_roundw
                case rel => exact ⟨k + 1, by omega, by go_num, HC2, by first | rfl | trivial⟩
                case measure => simp [intOf]; omega
          · have HB := Lib.hid (HY.out (fun j h => HI.out j h (by omega)))
            clear HI HY
            go_wp2
            go_ret
            exact ⟨ret_bool HB.out.symm, rfl⟩
end Go.Proofs.YtenbhalnpiahaaaGreatDoor
/- Layer 4: Grow of an empty list of strings, and Concat of lists of strings. -/
namespace Go.Proofs
open Go.Shelf
shelf_lay_g Lays8.n4 Nm8 4 at Tryz 87 as Tryz.growS
end Go.Proofs
namespace Go.Proofs.YtenbhalnpiahaaaGreatDoor
open Go.RowKit Go.Proofs.Ws
theorem Tryz.infoS : (Tryz.prog.info? 9).map (fun i => (i.zero, i.size, i.bytes)) = some (some (.string ByteArray.empty), 1, 16) := by kernel_rfl
theorem pGrow_any (S : Nat) (w : World) (hS : S ≤ 100000) :
    Calls Tryz.prog 87 #[.slice none 0 0, .int .i64 S] w fun e w' => ∃ v, e = .returned v ∧ w'.ownsRow w.heap.size 9 1 v 0 [] ∧ Below w.heap.size w w' := by
  by_cases h0 : S = 0
  · subst h0
    refine (Any8.slices_Grow_room Tryz.growS none 0 0 0 w (by omega) (by omega) (by omega) (by omega)).mono ?_
    rintro e w' ⟨rfl, rfl⟩
    exact ⟨_, rfl, World.ownsRow_nil _ _ _ _, Below.refl _ _⟩
  · obtain ⟨i0, hi, hz0, hz1, hz2⟩ := info_parts Tryz.infoS
    refine (Any8.slices_Grow_grow Tryz.growS i0 (.string ByteArray.empty) hi hz0 (by omega) none 0 0 S [] w (by omega) (by omega) (by rw [hz2]; omega) (by omega) (by simp) (fun _ => rfl) (fun a ha => by cases ha)).mono ?_
    rintro e w' ⟨rfl, rfl⟩
    refine ⟨_, rfl, ⟨rfl, .inr ⟨w.heap.size, _, _, rfl, Nat.le_refl _, heap_alloc_new w.drew _, Nat.zero_le _, grownCap_le_maxLen w _ _ _ (by unfold maxLen; omega), ?_, by simp⟩⟩, ((Below.refl _ w).drew).alloc (Nat.le_refl _) _⟩
    have := grownCap_ge w (0 + S) 0 (Tryz.growS_ren.t 25)
    rw [Array.size_append, Array.size_append, size_zeroCells, size_zeroCells]
    simp [Value.cells]
    simp at this
    omega
theorem own_reads2 {w : World} {base : Nat} {e : TypeId} {v : Value} {n : Nat} {xs : List Value} (h : w.ownsRow base e 1 v n xs) :
    ∃ A c, v = .slice A n c ∧ n ≤ c ∧ c ≤ 9223372036854775807 ∧ (A = none → n = 0 ∧ c = 0) ∧ Reads w w.heap.size 1 A n xs := by
  have h2 := h.2
  rcases h2 with ⟨rfl, rfl⟩ | ⟨g, cap, cur, rfl, _, _, h4, h5, _⟩
  · exact ⟨none, 0, rfl, Nat.le_refl _, by omega, fun _ => ⟨rfl, rfl⟩, Reads.of_own h⟩
  · exact ⟨_, cap, rfl, h4, by unfold maxLen at h5; omega, (fun h => by cases h), Reads.of_own h⟩
def catK (L : Nat → List ByteArray) : Nat → List ByteArray
  | 0 => []
  | k + 1 => catK L k ++ L k
def Srcs (w : World) (B g m : Nat) (a : Nat → Option Addr) (n c : Nat → Nat) (L : Nat → List ByteArray) : Prop :=
  ∀ k, k < m → w.cell? ⟨g, k, none⟩ = some (.slice (a k) (n k) (c k)) ∧ Reads w B 1 (a k) (n k) (ss (L k)) ∧ (a k = none → n k = 0 ∧ c k = 0) ∧ n k ≤ 1000
theorem ss_oneCell (l : List ByteArray) : ∀ u ∈ ss l, u.oneCell' = true := by
  intro u hu
  unfold ss at hu
  obtain ⟨x, _, rfl⟩ := List.mem_map.1 hu
  rfl
theorem catK_len {L : Nat → List ByteArray} {m : Nat} (h : ∀ k, k < m → (L k).length ≤ 1000) : ∀ k, k ≤ m → (catK L k).length ≤ 1000 * k
  | 0, _ => by simp [catK]
  | k + 1, hk => by
    have := catK_len h k (by omega)
    have := h k (by omega)
    simp only [catK, List.length_append]
    omega
set_option maxRecDepth 100000 in
set_option maxHeartbeats 2000000 in
theorem pConcat_any (g m : Nat) (a : Nat → Option Addr) (n c : Nat → Nat) (L : Nat → List ByteArray) (w : World) (hg : g < w.heap.size) (hm : m ≤ 3) (hS : Srcs w w.heap.size g m a n c L) :
    Calls Tryz.prog 51 #[.slice (some ⟨g, 0, none⟩) m m] w fun e w' => ∃ A' c', e = .returned (.slice A' (catK L m).length c') ∧ (catK L m).length ≤ c' ∧ c' ≤ 9223372036854775807 ∧ Reads w' w'.heap.size 1 A' (catK L m).length (ss (catK L m)) ∧ Below w.heap.size w w' := by
  have HS := Lib.hid hS
  have HLN : Hid (∀ k, k < m → (L k).length = n k) := Lib.hid (fun k hk => (hS k hk).2.1.str_len)
  have HCL : Hid (∀ k, k ≤ m → (catK L k).length ≤ 3000) := Lib.hid (fun k hk => by
    have := catK_len (m := m) (fun j hj => by rw [HLN.out j hj]; exact (hS j hj).2.2.2) k hk
    omega)
  obtain ⟨i0, hi, hz0, hz1, hz2⟩ := info_parts Tryz.infoS
  clear hS
  go_enter Tryz.func51, Tryz.ntmps51
  go_wp2
  go_loopw [3, 11] (fun sv iv wr => ∃ k : Nat, k ≤ m ∧ iv = .int .i64 k ∧ sv = .int .i64 (((catK L k).length : Nat) : Int) ∧ w = wr) (fun _ iv _ => m - (intOf iv).toNat)
  case atStart => exact ⟨0, Nat.zero_le _, rfl, rfl, rfl⟩
  case round =>
    obtain ⟨k, hk, rfl, rfl, rfl⟩ := hrel
    by_cases hlt : k < m
    · obtain ⟨hc, _, _, hn⟩ := HS.out k hlt
      have HQ : Hid ((catK L (k + 1)).length = (catK L k).length + n k) := Lib.hid (by simp only [catK, List.length_append]; rw [HLN.out k hlt])
      have h1 := HCL.out k hk
      generalize (catK L k).length = s at *
      generalize n k = t at *
      generalize a k = A at *
      generalize c k = C at *
      have hd : decide (((s : Int) + (t : Int)) < 0) = false := by simp; omega
      go_wp2
      go_roundw
      case rel => exact ⟨k + 1, by omega, by go_num, by rw [HQ.out]; go_num, by first | rfl | trivial⟩
      case measure => simp [intOf]; omega
    · have hkm : m = k := by omega
      subst hkm
      have h1 := HCL.out m hk
      have HG := Lib.hid (pGrow_any (catK L m).length w (by omega))
      have HQ : Hid (∃ s, s = (catK L m).length) := Lib.hid ⟨_, rfl⟩
      clear h1
      go_wp2_with fail
      refine (HG.out).mono ?_
      rintro e w1 ⟨v, rfl, hown, hb⟩
      have hsz := hb.size
      go_wp2
      go_loopw [6, 27] (fun v iv wr => ∃ k : Nat, k ≤ m ∧ iv = .int .i64 k ∧ wr.ownsRow w.heap.size 9 1 v (catK L k).length (ss (catK L k)) ∧ Below w.heap.size w wr) (fun _ iv _ => m - (intOf iv).toNat)
      case atStart => exact ⟨0, Nat.zero_le _, rfl, hown, hb⟩
      case round =>
        clear hown hb hsz
        obtain ⟨k, hk, rfl, hown, hb⟩ := hrel
        have hsz := hb.size
        by_cases hlt : k < m
        · obtain ⟨hc0, hRk, hnn, hn⟩ := HS.out k hlt
          have hc := (hb.cell (p := ⟨g, k, none⟩) hg).trans hc0
          have HQ : Hid ((catK L (k + 1)).length = (catK L k).length + n k) := Lib.hid (by simp only [catK, List.length_append]; rw [HLN.out k hlt])
          have HX : Hid (ss (catK L (k + 1)) = ss (catK L k) ++ ss (L k)) := Lib.hid (by simp only [catK]; exact ss_append _ _)
          have h1 := HCL.out k hk
          have hRk' := hRk.below hb
          have hll := HLN.out k hlt
          clear hc0
          cases hA : a k with
          | none =>
            obtain ⟨h0, h0'⟩ := hnn hA
            rw [hA, h0, h0'] at hc
            have HN : Hid (ss (catK L (k + 1)) = ss (catK L k) ∧ (catK L (k + 1)).length = (catK L k).length) := Lib.hid (by
              have hnil : L k = [] := List.eq_nil_of_length_eq_zero (by omega)
              refine ⟨by rw [HX.out, hnil]; simp [ss], by rw [HQ.out, h0]; rfl⟩)
            clear hRk hRk' hnn hn hA
            go_wp2_with (at_builtin; refine wpList_append_own_none rfl _ _ 22 rfl w.heap.size 9 i0 1 Tryz.underlying22 hi _ _ _ rfl hown rfl ?_)
            go_roundw
            case rel => exact ⟨k + 1, by omega, by go_num, by rw [HN.out.1, HN.out.2]; exact hown, hb⟩
            case measure => simp [intOf]; omega
          | some ad =>
            rw [hA] at hc hRk'
            have HCE : Hid (∀ j u, (ss (L k))[j]? = some u → wr.cell? (ad.add j) = some u) := Lib.hid (fun j u hu => by
              have hj : j < (ss (L k)).length := (List.getElem?_eq_some_iff.1 hu).1
              rw [ss_length, hll] at hj
              obtain ⟨ad', e, _, hc'⟩ := hRk'.2 (by omega)
              injection e with e
              subst e
              exact hc' j u hu)
            clear hRk hRk' hnn hA
            go_wp2_with (at_builtin; refine wpList_append_own _ rfl _ _ 22 rfl w.heap.size 9 i0 (.string ByteArray.empty) 1 16 Tryz.underlying22 hi hz0 hz1 hz2 rfl (by decide) _ _ _ rfl hown ad (n k) (c k) (ss (L k)) rfl ?c0 ?c1 ?c2 ?c3 ?c4 ?c5 ?_)
            case c0 => rw [ss_length, hll]; omega
            case c1 => exact HCE.out
            case c2 => exact ss_oneCell _
            case c3 => unfold maxLen; omega
            case c4 => omega
            case c5 => exact hsz
            intro v' w3 hown' hgrow _
            have hb3 : Below w.heap.size w w3 := hb.grown hgrow hsz (fun j hj => (hown.lt j hj).1)
            have HO : Hid (w3.ownsRow w.heap.size 9 1 v' (catK L (k + 1)).length (ss (catK L (k + 1)))) := Lib.hid (by rw [HQ.out, HX.out]; exact hown')
            clear hgrow hown hown' hb HCE
            go_wp2
            go_roundw
            case rel => exact ⟨k + 1, by omega, by go_num, HO.out, hb3⟩
            case measure => simp [intOf]; omega
        · have hkm : m = k := by omega
          subst hkm
          obtain ⟨A, c, rfl, hnc, hcm, _, hRd⟩ := own_reads2 hown
          have HRD := Lib.hid hRd
          have HB := Lib.hid hb
          clear hRd hown hb
          go_wp2
          go_ret
          exact ⟨_, _, rfl, hnc, hcm, HRD.out, HB.out⟩
end Go.Proofs.YtenbhalnpiahaaaGreatDoor
/- Layer 6: the program's letters and digits. -/
namespace Go.Proofs
open Go.Shelf
shelf_lay Lays.n99 Nm 99 at Tryz as Tryz.laysPrefix
shelf_lay Lays.n137 Nm 137 at Tryz as Tryz.laysIndexByte
end Go.Proofs
namespace Go.Proofs.Ws
open Go
theorem ext_take (t : ByteArray) (a b : Nat) : t.extract a b = ⟨((t.data.toList.drop a).take (b - a)).toArray⟩ := by
  apply ByteArray.ext
  apply Array.ext'
  rw [ByteArray.data_extract]
  simp [List.extract_eq_take_drop]
theorem indexByte_mem (l : List UInt8) (c : UInt8) : (0 ≤ Lib.indexByte l c) ↔ c ∈ l := by
  induction l with
  | nil => simp [Lib.indexByte]
  | cons b l ih =>
    unfold Lib.indexByte
    by_cases h : b = c
    · subst h; simp
    · have hb : (b == c) = false := by simpa using h
      have hge := Lib.indexByte_ge l c
      rw [hb]
      simp only [Bool.false_eq_true, if_false, List.mem_cons]
      by_cases hm : Lib.indexByte l c = -1
      · rw [hm]
        simp
        refine ⟨fun e => h e.symm, fun hc => ?_⟩
        have := ih.2 hc
        omega
      · have hm2 : (Lib.indexByte l c == -1) = false := by simpa using hm
        rw [hm2]
        simp only [Bool.false_eq_true, if_false]
        constructor
        · intro _; exact .inr (ih.1 (by omega))
        · intro _; omega
end Go.Proofs.Ws
namespace Go.Proofs.YtenbhalnpiahaaaGreatDoor
open Go.RowKit Go.Proofs.Ws
theorem kSpace_any (m : Nat) (w : World) : Calls Tryz.prog 42 #[.int .u8 m] w fun e w' => e = .returned (.bool (spaceN m)) ∧ w = w' := by
  have e : spaceN m = (((m : Int) == 32) || ((m : Int) == 9) || ((m : Int) == 10)) := by
    unfold spaceN
    rw [Bool.eq_iff_iff]
    simp
    omega
  rw [e]
  clear e
  cases d1 : ((m : Int) == 32) <;> cases d2 : ((m : Int) == 9) <;> cases d3 : ((m : Int) == 10)
  all_goals
    go_enter Tryz.func42, Tryz.ntmps42
    go_wp2
    go_ret
    exact ⟨rfl, rfl⟩
theorem kLetter_any (m : Nat) (w : World) : Calls Tryz.prog 75 #[.int .u8 m] w fun e w' => e = .returned (.bool (letN m)) ∧ w = w' := by
  have e : letN m = ((decide ((97 : Int) ≤ (m : Int)) && decide ((m : Int) ≤ 122)) || (decide ((65 : Int) ≤ (m : Int)) && decide ((m : Int) ≤ 90)) || ((m : Int) == 95)) := by
    unfold letN
    rw [Bool.eq_iff_iff]
    simp
    omega
  rw [e]
  clear e
  cases d1 : decide ((97 : Int) ≤ (m : Int)) <;> cases d2 : decide ((m : Int) ≤ 122) <;> cases d3 : decide ((65 : Int) ≤ (m : Int)) <;> cases d4 : decide ((m : Int) ≤ 90) <;> cases d5 : ((m : Int) == 95)
  all_goals
    go_enter Tryz.func75, Tryz.ntmps75
    go_wp2
    go_ret
    exact ⟨rfl, rfl⟩
theorem kDigit_any (m : Nat) (w : World) : Calls Tryz.prog 78 #[.int .u8 m] w fun e w' => e = .returned (.bool (digN m)) ∧ w = w' := by
  have e : digN m = (decide ((48 : Int) ≤ (m : Int)) && decide ((m : Int) ≤ 57)) := by
    unfold digN
    rw [Bool.eq_iff_iff]
    simp
    omega
  rw [e]
  clear e
  cases d1 : decide ((48 : Int) ≤ (m : Int)) <;> cases d2 : decide ((m : Int) ≤ 57)
  all_goals
    go_enter Tryz.func78, Tryz.ntmps78
    go_wp2
    go_ret
    exact ⟨rfl, rfl⟩
theorem kWord_any (m : Nat) (w : World) : Calls Tryz.prog 77 #[.int .u8 m] w fun e w' => e = .returned (.bool (wordN m)) ∧ w = w' := by
  have HL := Lib.hid (fun W => kLetter_any m W)
  have HD := Lib.hid (fun W => kDigit_any m W)
  unfold wordN
  cases hl : letN m with
  | true =>
    rw [hl] at HL
    clear hl
    go_enter Tryz.func77, Tryz.ntmps77
    go_wp2_with (go_at_call 75; refine (HL.out _).mono ?_; rintro e w' ⟨rfl, rfl⟩)
    go_ret
    exact ⟨rfl, rfl⟩
  | false =>
    rw [hl] at HL
    clear hl
    go_enter Tryz.func77, Tryz.ntmps77
    go_wp2_with (first | (go_at_call 75; refine (HL.out _).mono ?_; rintro e w' ⟨rfl, rfl⟩) | (go_at_call 78; refine (HD.out _).mono ?_; rintro e w' ⟨rfl, rfl⟩))
    go_ret
    exact ⟨rfl, rfl⟩
theorem kPrefix_any (s p : ByteArray) (w : World) : Calls Tryz.prog 79 #[.string s, .string p] w fun e w' => e = .returned (.bool (Lib.hasPrefix s.data.toList p.data.toList)) ∧ w = w' :=
  (Any.strings_HasPrefix Tryz.laysPrefix s p w : Calls Tryz.prog 79 _ w _).mono (by rintro e w' ⟨h, rfl⟩; exact ⟨h, rfl⟩)
theorem kIndexByte_any (s : ByteArray) (c : Int) (w : World) : Calls Tryz.prog 80 #[.string s, .int .u8 c] w fun e w' => e = .returned (.int .i64 (Lib.indexByte s.data.toList c.toNat.toUInt8)) ∧ w = w' :=
  (Any.strings_IndexByte Tryz.laysIndexByte s c w : Calls Tryz.prog 80 _ w _).mono (by rintro e w' ⟨h, rfl⟩; exact ⟨h, rfl⟩)
end Go.Proofs.YtenbhalnpiahaaaGreatDoor
/- Layer 6: the program's tokens. -/
namespace Go.Proofs.YtenbhalnpiahaaaGreatDoor
open Go.RowKit Go.Proofs.Ws
set_option maxRecDepth 100000 in
theorem kLead_word (t : ByteArray) (w : World) (hm : t.size ≤ maxLen) :
    Calls Tryz.prog 76 #[.string t, .func (Fn.func 77) #[] #[]] w fun e w' => e = .returned (.string ⟨(t.data.toList.take (scanL wordN t.data.toList)).toArray⟩) ∧ w = w' := by
  unfold maxLen at hm
  have HL : Hid (scanL wordN t.data.toList = scanE wordN t.data.toList 0) := Lib.hid (by unfold scanE; rw [List.drop_zero]; omega)
  have HX : Hid (∀ k, t.extract 0 k = ⟨(t.data.toList.take k).toArray⟩) := Lib.hid (fun k => by rw [ext_take]; simp)
  have hsz := ba_len t
  have HY := Lib.hid (fun k (h : k < t.data.toList.length) => scanE_yes (p := wordN) (l := t.data.toList) h)
  have HN := Lib.hid (fun k (h : k < t.data.toList.length) => scanE_no (p := wordN) (l := t.data.toList) h)
  have HE := Lib.hid (fun k (h : t.data.toList.length ≤ k) => scanE_end (p := wordN) h)
  have HG : Hid (∀ k (h : k < t.size) (h' : k < t.data.toList.length), t.data.toList[k] = t[k]) := Lib.hid (fun k h h' => rfl)
  have HSZ := Lib.hid hsz
  clear hsz
  go_enter Tryz.func76, Tryz.ntmps76
  go_wp2
  go_loopw [5] (fun i wr => ∃ k : Nat, k ≤ t.size ∧ i = .int .i64 k ∧ Hid (scanE wordN t.data.toList k = scanE wordN t.data.toList 0) ∧ wr = w) (fun i _ => t.size - (intOf i).toNat)
  case atStart => exact ⟨0, Nat.zero_le _, rfl, Lib.hid rfl, rfl⟩
  case round =>
    obtain ⟨k, hk, rfl, HI, rfl⟩ := hrel
    by_cases hlt : k < t.size
    · have HP := Lib.hid (fun W => kWord_any t[k].toNat W)
      have hg := HG.out k hlt (by rw [HSZ.out]; exact hlt)
      cases hc : wordN t[k].toNat with
      | true =>
        have HI2 := Lib.hid ((HY.out k (by rw [HSZ.out]; exact hlt) (by rw [hg]; exact hc)).symm.trans HI.out)
        rw [hc] at HP
        clear hc hg HI
        go_wp2_with (go_at_call 77; refine (HP.out _).mono ?_; rintro e w' ⟨rfl, rfl⟩)
        go_roundw
        case rel => exact ⟨k + 1, by omega, by go_num, HI2, by first | rfl | trivial⟩
        case measure => simp [intOf]; omega
      | false =>
        have HI2 := Lib.hid ((HN.out k (by rw [HSZ.out]; exact hlt) (by rw [hg]; exact hc)).symm.trans HI.out)
        have HF : Hid ((⟨(t.data.toList.take (scanL wordN t.data.toList)).toArray⟩ : ByteArray) = t.extract 0 k) := Lib.hid (by rw [HX.out, HL.out, ← HI2.out])
        rw [hc] at HP
        clear hc hg HI HI2
        go_wp2_with (go_at_call 77; refine (HP.out _).mono ?_; rintro e w' ⟨rfl, rfl⟩)
        go_ret
        exact ⟨by rw [HF.out]; rfl, rfl⟩
    · have hkn : k = t.size := by omega
      have HI2 := Lib.hid ((HE.out k (by rw [HSZ.out]; omega)).symm.trans HI.out)
      have HF : Hid ((⟨(t.data.toList.take (scanL wordN t.data.toList)).toArray⟩ : ByteArray) = t) := Lib.hid (by
        rw [HL.out, ← HI2.out, hkn, ← HSZ.out, List.take_length])
      clear HI HI2
      subst hkn
      go_wp2
      go_ret
      exact ⟨by rw [HF.out]; rfl, rfl⟩
set_option maxRecDepth 100000 in
theorem kLead_dig (t : ByteArray) (w : World) (hm : t.size ≤ maxLen) :
    Calls Tryz.prog 76 #[.string t, .func (Fn.func 78) #[] #[]] w fun e w' => e = .returned (.string ⟨(t.data.toList.take (scanL digN t.data.toList)).toArray⟩) ∧ w = w' := by
  unfold maxLen at hm
  have HL : Hid (scanL digN t.data.toList = scanE digN t.data.toList 0) := Lib.hid (by unfold scanE; rw [List.drop_zero]; omega)
  have HX : Hid (∀ k, t.extract 0 k = ⟨(t.data.toList.take k).toArray⟩) := Lib.hid (fun k => by rw [ext_take]; simp)
  have hsz := ba_len t
  have HY := Lib.hid (fun k (h : k < t.data.toList.length) => scanE_yes (p := digN) (l := t.data.toList) h)
  have HN := Lib.hid (fun k (h : k < t.data.toList.length) => scanE_no (p := digN) (l := t.data.toList) h)
  have HE := Lib.hid (fun k (h : t.data.toList.length ≤ k) => scanE_end (p := digN) h)
  have HG : Hid (∀ k (h : k < t.size) (h' : k < t.data.toList.length), t.data.toList[k] = t[k]) := Lib.hid (fun k h h' => rfl)
  have HSZ := Lib.hid hsz
  clear hsz
  go_enter Tryz.func76, Tryz.ntmps76
  go_wp2
  go_loopw [5] (fun i wr => ∃ k : Nat, k ≤ t.size ∧ i = .int .i64 k ∧ Hid (scanE digN t.data.toList k = scanE digN t.data.toList 0) ∧ wr = w) (fun i _ => t.size - (intOf i).toNat)
  case atStart => exact ⟨0, Nat.zero_le _, rfl, Lib.hid rfl, rfl⟩
  case round =>
    obtain ⟨k, hk, rfl, HI, rfl⟩ := hrel
    by_cases hlt : k < t.size
    · have HP := Lib.hid (fun W => kDigit_any t[k].toNat W)
      have hg := HG.out k hlt (by rw [HSZ.out]; exact hlt)
      cases hc : digN t[k].toNat with
      | true =>
        have HI2 := Lib.hid ((HY.out k (by rw [HSZ.out]; exact hlt) (by rw [hg]; exact hc)).symm.trans HI.out)
        rw [hc] at HP
        clear hc hg HI
        go_wp2_with (go_at_call 78; refine (HP.out _).mono ?_; rintro e w' ⟨rfl, rfl⟩)
        go_roundw
        case rel => exact ⟨k + 1, by omega, by go_num, HI2, by first | rfl | trivial⟩
        case measure => simp [intOf]; omega
      | false =>
        have HI2 := Lib.hid ((HN.out k (by rw [HSZ.out]; exact hlt) (by rw [hg]; exact hc)).symm.trans HI.out)
        have HF : Hid ((⟨(t.data.toList.take (scanL digN t.data.toList)).toArray⟩ : ByteArray) = t.extract 0 k) := Lib.hid (by rw [HX.out, HL.out, ← HI2.out])
        rw [hc] at HP
        clear hc hg HI HI2
        go_wp2_with (go_at_call 78; refine (HP.out _).mono ?_; rintro e w' ⟨rfl, rfl⟩)
        go_ret
        exact ⟨by rw [HF.out]; rfl, rfl⟩
    · have hkn : k = t.size := by omega
      have HI2 := Lib.hid ((HE.out k (by rw [HSZ.out]; omega)).symm.trans HI.out)
      have HF : Hid ((⟨(t.data.toList.take (scanL digN t.data.toList)).toArray⟩ : ByteArray) = t) := Lib.hid (by
        rw [HL.out, ← HI2.out, hkn, ← HSZ.out, List.take_length])
      clear HI HI2
      subst hkn
      go_wp2
      go_ret
      exact ⟨by rw [HF.out]; rfl, rfl⟩
end Go.Proofs.YtenbhalnpiahaaaGreatDoor
/- Layer 6: the program's first token of a text. -/
namespace Go.Proofs.Ws
open Go
def tokW (l : List UInt8) : ByteArray := ⟨(l.take (partL l)).toArray⟩
theorem part_head {l : List UInt8} (h : 0 < l.length) : partL l = if letN l[0].toNat = true then scanL wordN l else if digN l[0].toNat = true then scanL digN l else if [60, 45, 62] <+: l then 3 else if [45, 62] <+: l then 2 else if l[0].toNat ∈ markL then 1 else 0 := by
  cases l with
  | nil => simp at h
  | cons c r => rfl
def mark8 : List UInt8 := [126, 38, 124, 40, 41, 91, 93, 44, 46, 33]
theorem mark8_iff (c : UInt8) : c ∈ mark8 ↔ c.toNat ∈ markL := by
  have e : markL = mark8.map UInt8.toNat := by decide
  rw [e, List.mem_map]
  constructor
  · intro h; exact ⟨c, h, rfl⟩
  · rintro ⟨d, hd, e⟩
    rw [← UInt8.toNat_inj.1 e]; exact hd
def idxM (c : UInt8) : Int := Lib.indexByte mark8 c
theorem idxM_mem (c : UInt8) : decide ((0 : Int) ≤ idxM c) = decide (c.toNat ∈ markL) := by
  rw [Bool.eq_iff_iff, decide_eq_true_iff, decide_eq_true_iff, ← mark8_iff]
  exact indexByte_mem mark8 c
theorem take_prefix {p l : List UInt8} (h : p <+: l) : l.take p.length = p := (List.prefix_iff_eq_take.1 h).symm
end Go.Proofs.Ws
namespace Go.Proofs.YtenbhalnpiahaaaGreatDoor
open Go.RowKit Go.Proofs.Ws
theorem kMark_any (c : UInt8) (w : World) : Calls Tryz.prog 80 #[.string ⟨#[126, 38, 124, 40, 41, 91, 93, 44, 46, 33]⟩, .int .u8 (c.toNat : Int)] w fun e w' => e = .returned (.int .i64 (idxM c)) ∧ w = w' := by
  refine (kIndexByte_any _ _ w).mono ?_
  rintro e w' ⟨rfl, rfl⟩
  refine ⟨?_, rfl⟩
  unfold idxM mark8
  rw [show ((c.toNat : Int).toNat.toUInt8) = c from by simp]
theorem kPre_any (p : List UInt8) (t : ByteArray) (w : World) : Calls Tryz.prog 79 #[.string t, .string ⟨p.toArray⟩] w fun e w' => e = .returned (.bool (decide (p <+: t.data.toList))) ∧ w = w' := by
  refine (kPrefix_any _ _ w).mono ?_
  rintro e w' ⟨rfl, rfl⟩
  refine ⟨?_, rfl⟩
  congr 2
  unfold Lib.hasPrefix
  rw [Bool.eq_iff_iff, List.isPrefixOf_iff_prefix, decide_eq_true_iff]
set_option maxRecDepth 100000 in
theorem kToken_any (t : ByteArray) (w : World) (hm : t.size ≤ maxLen) (h0 : 0 < t.size) :
    Calls Tryz.prog 43 #[.string t] w fun e w' => e = .returned (.string (tokW t.data.toList)) ∧ w = w' := by
  have h0' : 0 < t.data.toList.length := by rw [ba_len]; exact h0
  have hp := part_head h0'
  have hg : t.data.toList[0] = t[0] := rfl
  rw [hg] at hp
  have HW := Lib.hid (fun W => kLead_word t W hm)
  have HD := Lib.hid (fun W => kLead_dig t W hm)
  have HL := Lib.hid (fun W => kLetter_any t[0].toNat W)
  have HG := Lib.hid (fun W => kDigit_any t[0].toNat W)
  have HM := Lib.hid (fun W => kMark_any t[0] W)
  have H3 : Hid (∀ W, Calls Tryz.prog 79 #[.string t, .string ⟨#[60, 45, 62]⟩] W fun e w' => e = .returned (.bool (decide ([60, 45, 62] <+: t.data.toList))) ∧ W = w') := Lib.hid (fun W => kPre_any [60, 45, 62] t W)
  have H2 : Hid (∀ W, Calls Tryz.prog 79 #[.string t, .string ⟨#[45, 62]⟩] W fun e w' => e = .returned (.bool (decide ([45, 62] <+: t.data.toList))) ∧ W = w') := Lib.hid (fun W => kPre_any [45, 62] t W)
  have HX : Hid (t.extract 0 1 = ⟨(t.data.toList.take 1).toArray⟩) := Lib.hid (by rw [ext_take]; simp)
  have hz := idxM_mem t[0]
  unfold tokW
  cases hl : letN t[0].toNat with
  | true =>
    rw [hl] at hp HL
    rw [if_pos rfl] at hp
    rw [hp]
    clear hp hl hz
    go_enter Tryz.func43, Tryz.ntmps43
    go_wp2_with (first | (go_at_call 75; refine (HL.out _).mono ?_; rintro e w' ⟨rfl, rfl⟩) | (go_at_call 76; refine (HW.out _).mono ?_; rintro e w' ⟨rfl, rfl⟩))
    go_ret
    exact ⟨rfl, rfl⟩
  | false =>
    rw [hl] at hp HL
    rw [if_neg (by decide)] at hp
    clear hl
    cases hd : digN t[0].toNat with
    | true =>
      rw [hd] at hp HG
      rw [if_pos rfl] at hp
      rw [hp]
      clear hp hd hz
      go_enter Tryz.func43, Tryz.ntmps43
      go_wp2_with (first | (go_at_call 75; refine (HL.out _).mono ?_; rintro e w' ⟨rfl, rfl⟩) | (go_at_call 78; refine (HG.out _).mono ?_; rintro e w' ⟨rfl, rfl⟩) | (go_at_call 76; refine (HD.out _).mono ?_; rintro e w' ⟨rfl, rfl⟩))
      go_ret
      exact ⟨rfl, rfl⟩
    | false =>
      rw [hd] at hp HG
      rw [if_neg (by decide)] at hp
      clear hd HW HD
      by_cases h3 : [60, 45, 62] <+: t.data.toList
      · rw [if_pos h3] at hp
        have HR : Hid ((⟨(t.data.toList.take (partL t.data.toList)).toArray⟩ : ByteArray) = ⟨#[60, 45, 62]⟩) := Lib.hid (by rw [hp, show (3 : Nat) = ([60, 45, 62] : List UInt8).length from rfl, take_prefix h3])
        rw [HR.out]
        rw [decide_eq_true h3] at H3
        clear hp hz h3 HR
        go_enter Tryz.func43, Tryz.ntmps43
        go_wp2_with fail
        refine (HL.out _).mono ?_
        rintro e w' ⟨rfl, rfl⟩
        go_wp2_with fail
        refine (HG.out _).mono ?_
        rintro e w' ⟨rfl, rfl⟩
        go_wp2_with fail
        refine (H3.out _).mono ?_
        rintro e w' ⟨rfl, rfl⟩
        go_wp2
        go_ret
        exact ⟨rfl, rfl⟩
      · rw [if_neg h3] at hp
        rw [decide_eq_false h3] at H3
        clear h3
        by_cases h2 : [45, 62] <+: t.data.toList
        · rw [if_pos h2] at hp
          have HR : Hid ((⟨(t.data.toList.take (partL t.data.toList)).toArray⟩ : ByteArray) = ⟨#[45, 62]⟩) := Lib.hid (by rw [hp, show (2 : Nat) = ([45, 62] : List UInt8).length from rfl, take_prefix h2])
          rw [HR.out]
          rw [decide_eq_true h2] at H2
          clear hp hz h2 HR
          go_enter Tryz.func43, Tryz.ntmps43
          go_wp2_with fail
          refine (HL.out _).mono ?_
          rintro e w' ⟨rfl, rfl⟩
          go_wp2_with fail
          refine (HG.out _).mono ?_
          rintro e w' ⟨rfl, rfl⟩
          go_wp2_with fail
          refine (H3.out _).mono ?_
          rintro e w' ⟨rfl, rfl⟩
          go_wp2_with fail
          refine (H2.out _).mono ?_
          rintro e w' ⟨rfl, rfl⟩
          go_wp2
          go_ret
          exact ⟨rfl, rfl⟩
        · rw [if_neg h2] at hp
          rw [decide_eq_false h2] at H2
          clear h2
          by_cases hk : t[0].toNat ∈ markL
          · rw [if_pos hk] at hp
            rw [decide_eq_true hk] at hz
            rw [hp, ← HX.out]
            clear hp hk HX
            generalize idxM t[0] = z at *
            go_enter Tryz.func43, Tryz.ntmps43
            go_wp2_with fail
            refine (HL.out _).mono ?_
            rintro e w' ⟨rfl, rfl⟩
            go_wp2_with fail
            refine (HG.out _).mono ?_
            rintro e w' ⟨rfl, rfl⟩
            go_wp2_with fail
            refine (H3.out _).mono ?_
            rintro e w' ⟨rfl, rfl⟩
            go_wp2_with fail
            refine (H2.out _).mono ?_
            rintro e w' ⟨rfl, rfl⟩
            go_wp2_with fail
            refine (HM.out _).mono ?_
            rintro e w' ⟨rfl, rfl⟩
            go_wp2
            go_ret
            exact ⟨rfl, rfl⟩
          · rw [if_neg hk] at hp
            rw [decide_eq_false hk] at hz
            have HR : Hid ((⟨(t.data.toList.take (partL t.data.toList)).toArray⟩ : ByteArray) = ⟨#[]⟩) := Lib.hid (by rw [hp, List.take_zero])
            rw [HR.out]
            clear hp hk HR
            generalize idxM t[0] = z at *
            go_enter Tryz.func43, Tryz.ntmps43
            go_wp2_with fail
            refine (HL.out _).mono ?_
            rintro e w' ⟨rfl, rfl⟩
            go_wp2_with fail
            refine (HG.out _).mono ?_
            rintro e w' ⟨rfl, rfl⟩
            go_wp2_with fail
            refine (H3.out _).mono ?_
            rintro e w' ⟨rfl, rfl⟩
            go_wp2_with fail
            refine (H2.out _).mono ?_
            rintro e w' ⟨rfl, rfl⟩
            go_wp2_with fail
            refine (HM.out _).mono ?_
            rintro e w' ⟨rfl, rfl⟩
            go_wp2
            go_ret
            exact ⟨rfl, rfl⟩
end Go.Proofs.YtenbhalnpiahaaaGreatDoor
