/- Layer 4: names, on both sides. -/
import Derived.Test.YtichhbnpdhfimaaDoorSa
namespace Go.Proofs.YtichhbnpdhfimaaDoor
open Go.RowKit Go.Proofs.Ws
theorem ba_len (x : ByteArray) : x.data.toList.length = x.size := Array.length_toList
theorem chr_at (x : ByteArray) (k : Nat) (h : k < x.size) : x.data.toList[k]? = some x[k] := by
  rw [List.getElem?_eq_getElem (by rw [ba_len]; exact h)]
  simp [ByteArray.getElem_eq_getElem_data]
theorem name_no0 {x : ByteArray} (h : x.size = 0) : nameV x = false := by
  unfold nameV nameL
  rw [decide_eq_false (by rw [ba_len]; omega)]; rfl
theorem name_no8 {x : ByteArray} (h : 8 < x.size) : nameV x = false := by
  unfold nameV nameL
  rw [decide_eq_false (show ¬ x.data.toList.length ≤ 8 by rw [ba_len]; omega), Bool.and_false]; rfl
theorem name_noL {x : ByteArray} (h : 0 < x.size) (hl : lowN x[0].toNat = false) : nameV x = false := by
  unfold nameV nameL
  rw [List.getD_eq_getElem?_getD, chr_at x 0 h]
  simp only [Option.getD_some]
  rw [hl, Bool.and_false, Bool.false_and]
theorem name_noC {x : ByteArray} {k : Nat} (h : k < x.size) (hl : chN x[k].toNat = false) : nameV x = false := by
  unfold nameV nameL
  have : x.data.toList.all (fun c => chN c.toNat) = false := List.all_eq_false.2 ⟨x[k], List.mem_of_getElem? (chr_at x k h), by simp [hl]⟩
  rw [this, Bool.and_false]
theorem name_yes {x : ByteArray} (h0 : 0 < x.size) (h8 : x.size ≤ 8) (hl : lowN x[0].toNat = true) (hc : ∀ k (h : k < x.size), chN x[k].toNat = true) : nameV x = true := by
  unfold nameV nameL
  rw [List.getD_eq_getElem?_getD, chr_at x 0 h0]
  simp only [Option.getD_some]
  rw [hl, decide_eq_true (by rw [ba_len]; omega), decide_eq_true (by rw [ba_len]; omega), Bool.true_and, Bool.true_and, Bool.true_and, List.all_eq_true]
  intro c hm
  obtain ⟨k, hk, rfl⟩ := List.mem_iff_getElem.1 hm
  rw [ba_len] at hk
  have h1 := chr_at x k hk
  rw [List.getElem?_eq_getElem (by rw [ba_len]; exact hk)] at h1
  injection h1 with h1
  rw [h1]
  exact hc k hk
theorem chN_iff (m : Nat) : chN m = (lowN m || digN m || decide (m = 95)) := rfl
set_option maxRecDepth 100000 in
theorem pIsName_any (x : ByteArray) (w : World) (hm : x.size ≤ maxLen) :
    Calls Tryd.prog 29 #[.string x] w fun e w' => e = .returned (.bool (nameV x)) ∧ w = w' := by
  unfold maxLen at hm
  by_cases h0 : x.size = 0
  · have HB := Lib.hid (name_no0 h0)
    have hie : x.toList.isEmpty = true := by
      rw [Lib.toList_data, List.isEmpty_iff, ← List.length_eq_zero_iff, ba_len]; exact h0
    clear h0
    go_enter Tryd.func29, Tryd.ntmps29
    go_wp2
    go_ret
    exact ⟨ret_bool HB.out.symm, rfl⟩
  · have hie : x.toList.isEmpty = false := by
      rw [Lib.toList_data]
      cases h : x.data.toList with
      | nil => exact absurd (by rw [← ba_len, h]; rfl) h0
      | cons _ _ => rfl
    have hpos : 0 < x.size := by omega
    by_cases h8 : 8 < x.size
    · have HB := Lib.hid (name_no8 h8)
      have hd : decide ((8 : Int) < (x.size : Int)) = true := by simp; omega
      clear h0 h8
      go_enter Tryd.func29, Tryd.ntmps29
      go_wp2
      go_ret
      exact ⟨ret_bool HB.out.symm, rfl⟩
    · have hd : decide ((8 : Int) < (x.size : Int)) = false := by simp; omega
      have HL := Lib.hid (fun W => pLetter_any x[0].toNat W)
      cases hl : lowN x[0].toNat with
      | false =>
        have HB := Lib.hid (name_noL hpos hl)
        rw [hl] at HL
        clear hl h0 h8
        go_enter Tryd.func29, Tryd.ntmps29
        go_wp2_with fail
        refine (HL.out _).mono ?_
        rintro e w' ⟨rfl, rfl⟩
        go_wp2
        go_ret
        exact ⟨ret_bool HB.out.symm, rfl⟩
      | true =>
        have HY := Lib.hid (name_yes hpos (by omega) hl)
        have HN := Lib.hid (fun k (h : k < x.size) => name_noC (x := x) (k := k) h)
        rw [hl] at HL
        clear hl h0 h8
        go_enter Tryd.func29, Tryd.ntmps29
        go_wp2_with fail
        refine (HL.out _).mono ?_
        rintro e w' ⟨rfl, rfl⟩
        clear HL
        go_wp2
        go_loopw [20] (fun i wr => ∃ k : Nat, k ≤ x.size ∧ i = .int .i64 k ∧ Hid (∀ j (h : j < x.size), j < k → chN x[j].toNat = true) ∧ wr = w) (fun i _ => x.size - (intOf i).toNat)
        case atStart => exact ⟨0, Nat.zero_le _, rfl, Lib.hid (fun j _ hj => absurd hj (by omega)), rfl⟩
        case round =>
          obtain ⟨k, hk, rfl, HI, rfl⟩ := hrel
          by_cases hlt : k < x.size
          · have HL := Lib.hid (fun W => pLetter_any x[k].toNat W)
            have HD := Lib.hid (fun W => pDigit_any x[k].toNat W)
            cases hc : chN x[k].toNat with
            | false =>
              have HB := Lib.hid (HN.out k hlt hc)
              have hc' := hc
              rw [chN_iff, Bool.or_eq_false_iff, Bool.or_eq_false_iff] at hc'
              obtain ⟨⟨c1, c2⟩, c3⟩ := hc'
              rw [c1] at HL
              rw [c2] at HD
              have hne : ((x[k].toNat : Int) != 95) = true := by
                rw [bne_iff_ne]; intro e
                have := of_decide_eq_false c3
                omega
              clear hc c1 c2 c3 HI HY
              go_wp2_with (first | (go_at_call 64; refine (HL.out _).mono ?_; rintro e w' ⟨rfl, rfl⟩) | (go_at_call 65; refine (HD.out _).mono ?_; rintro e w' ⟨rfl, rfl⟩))
              go_ret
              exact ⟨ret_bool HB.out.symm, rfl⟩
            | true =>
              have HC : Hid (∀ j (h : j < x.size), j < k + 1 → chN x[j].toNat = true) := Lib.hid (fun j h hj => by
                by_cases e : j = k
                · subst e; exact hc
                · exact HI.out j h (by omega))
              clear HI HY
              cases hl1 : lowN x[k].toNat with
              | true =>
                rw [hl1] at HL
                clear hc hl1
                go_wp2_with (first | (go_at_call 64; refine (HL.out _).mono ?_; rintro e w' ⟨rfl, rfl⟩) | (go_at_call 65; refine (HD.out _).mono ?_; rintro e w' ⟨rfl, rfl⟩))
                go_roundw
                case rel => exact ⟨k + 1, by omega, by go_num, HC, by first | rfl | trivial⟩
                case measure => simp [intOf]; omega
              | false =>
                rw [hl1] at HL
                cases hd1 : digN x[k].toNat with
                | true =>
                  rw [hd1] at HD
                  clear hc hl1 hd1
                  go_wp2_with (first | (go_at_call 64; refine (HL.out _).mono ?_; rintro e w' ⟨rfl, rfl⟩) | (go_at_call 65; refine (HD.out _).mono ?_; rintro e w' ⟨rfl, rfl⟩))
                  go_roundw
                  case rel => exact ⟨k + 1, by omega, by go_num, HC, by first | rfl | trivial⟩
                  case measure => simp [intOf]; omega
                | false =>
                  rw [hd1] at HD
                  have heq : ((x[k].toNat : Int) != 95) = false := by
                    rw [chN_iff, hl1, hd1] at hc
                    have := of_decide_eq_true (by simpa using hc : decide (x[k].toNat = 95) = true)
                    rw [this]; rfl
                  clear hc hl1 hd1
                  go_wp2_with (first | (go_at_call 64; refine (HL.out _).mono ?_; rintro e w' ⟨rfl, rfl⟩) | (go_at_call 65; refine (HD.out _).mono ?_; rintro e w' ⟨rfl, rfl⟩))
                  go_roundw
                  case rel => exact ⟨k + 1, by omega, by go_num, HC, by first | rfl | trivial⟩
                  case measure => simp [intOf]; omega
          · have HB := Lib.hid (HY.out (fun j h => HI.out j h (by omega)))
            clear HI HY
            go_wp2
            go_ret
            exact ⟨ret_bool HB.out.symm, rfl⟩
set_option maxRecDepth 100000 in
set_option maxHeartbeats 6000000 in
theorem pRefIsName_any (x : ByteArray) (w : World) (hm : x.size ≤ maxLen) :
    Calls Tryd.prog 30 #[.string x] w fun e w' => e = .returned (.bool (nameV x)) ∧ w = w' := by
  unfold maxLen at hm
  by_cases h0 : x.size = 0
  · have HB := Lib.hid (name_no0 h0)
    have hd : decide ((x.size : Int) < 1) = true := by simp; omega
    clear h0
    go_enter Tryd.func30, Tryd.ntmps30
    go_wp2
    go_ret
    exact ⟨ret_bool HB.out.symm, rfl⟩
  · have hd0 : decide ((x.size : Int) < 1) = false := by simp; omega
    have hpos : 0 < x.size := by omega
    by_cases h8 : 8 < x.size
    · have HB := Lib.hid (name_no8 h8)
      have hd : decide ((8 : Int) < (x.size : Int)) = true := by simp; omega
      clear h0 h8
      go_enter Tryd.func30, Tryd.ntmps30
      go_wp2
      go_ret
      exact ⟨ret_bool HB.out.symm, rfl⟩
    · have hd : decide ((8 : Int) < (x.size : Int)) = false := by simp; omega
      have hm0 : x[0].toNat < 256 := x[0].toNat_lt
      cases hl : lowN x[0].toNat with
      | false =>
        have HB := Lib.hid (name_noL hpos hl)
        unfold lowN at hl
        clear h0 h8
        by_cases c1 : x[0].toNat < 97
        · have d1 : decide ((x[0].toNat : Int) < 97) = true := by simp; omega
          clear hl c1
          go_enter Tryd.func30, Tryd.ntmps30
          go_wp2
          go_ret
          exact ⟨ret_bool HB.out.symm, rfl⟩
        · have c2 : 122 < x[0].toNat := by
            rw [decide_eq_true (by omega), Bool.true_and, decide_eq_false_iff_not] at hl
            omega
          have d1 : decide ((x[0].toNat : Int) < 97) = false := by simp; omega
          have d2 : decide ((122 : Int) < (x[0].toNat : Int)) = true := by simp; omega
          clear hl c1 c2
          go_enter Tryd.func30, Tryd.ntmps30
          go_wp2
          go_ret
          exact ⟨ret_bool HB.out.symm, rfl⟩
      | true =>
        have HY := Lib.hid (name_yes hpos (by omega) hl)
        have HN := Lib.hid (fun k (h : k < x.size) => name_noC (x := x) (k := k) h)
        unfold lowN at hl
        rw [Bool.and_eq_true, decide_eq_true_eq, decide_eq_true_eq] at hl
        have d1 : decide ((x[0].toNat : Int) < 97) = false := by simp; omega
        have d2 : decide ((122 : Int) < (x[0].toNat : Int)) = false := by simp; omega
        clear hl h0 h8
        go_enter Tryd.func30, Tryd.ntmps30
        go_wp2
        clear d1 d2 hm0
        go_loopw [3] (fun i wr => ∃ k : Nat, k ≤ x.size ∧ i = .int .i64 k ∧ Hid (∀ j (h : j < x.size), j < k → chN x[j].toNat = true) ∧ wr = w) (fun i _ => x.size - (intOf i).toNat)
        case atStart => exact ⟨0, Nat.zero_le _, rfl, Lib.hid (fun j _ hj => absurd hj (by omega)), rfl⟩
        case round =>
          obtain ⟨k, hk, rfl, HI, rfl⟩ := hrel
          by_cases hlt : k < x.size
          · have hm0 : x[k].toNat < 256 := x[k].toNat_lt
            have HC : Hid (chN x[k].toNat = true → ∀ j (h : j < x.size), j < k + 1 → chN x[j].toNat = true) := Lib.hid (fun hc j h hj => by
              by_cases e : j = k
              · subst e; exact hc
              · exact HI.out j h (by omega))
            have HB := Lib.hid (HN.out k hlt)
            have HU := Lib.hid (show chN x[k].toNat = (decide (97 ≤ x[k].toNat) && decide (x[k].toNat ≤ 122) || decide (48 ≤ x[k].toNat) && decide (x[k].toNat ≤ 57) || decide (x[k].toNat = 95)) from rfl)
            clear HI HY HN
            by_cases h1 : x[k].toNat < 97
            · skip
              by_cases h3 : x[k].toNat < 48
              · skip
                by_cases h5 : x[k].toNat = 95
                · skip
                  have d1 : decide ((x[k].toNat : Int) < 97) = true := by simp; omega
                  have d3 : decide ((x[k].toNat : Int) < 48) = true := by simp; omega
                  have d5 : ((x[k].toNat : Int) != 95) = false := by simp; omega
                  have HC2 := Lib.hid (HC.out (by rw [HU.out]; simp; omega))
                  clear HU HC HB h1 h3 h5
                  go_wp2
                  go_roundw
                  case rel => exact ⟨k + 1, by omega, by go_num, HC2, by first | rfl | trivial⟩
                  case measure => simp [intOf]; omega
                · skip
                  have d1 : decide ((x[k].toNat : Int) < 97) = true := by simp; omega
                  have d3 : decide ((x[k].toNat : Int) < 48) = true := by simp; omega
                  have d5 : ((x[k].toNat : Int) != 95) = true := by rw [bne_iff_ne]; omega
                  have HB3 := Lib.hid (HB.out (by rw [HU.out]; simp; omega))
                  clear HU HC HB h1 h3 h5
                  go_wp2
                  go_ret
                  exact ⟨ret_bool HB3.out.symm, rfl⟩
              · by_cases h4 : 57 < x[k].toNat
                · skip
                  by_cases h5 : x[k].toNat = 95
                  · skip
                    have d1 : decide ((x[k].toNat : Int) < 97) = true := by simp; omega
                    have d3 : decide ((x[k].toNat : Int) < 48) = false := by simp; omega
                    have d4 : decide ((57 : Int) < (x[k].toNat : Int)) = true := by simp; omega
                    have d5 : ((x[k].toNat : Int) != 95) = false := by simp; omega
                    have HC2 := Lib.hid (HC.out (by rw [HU.out]; simp; omega))
                    clear HU HC HB h1 h3 h4 h5
                    go_wp2
                    go_roundw
                    case rel => exact ⟨k + 1, by omega, by go_num, HC2, by first | rfl | trivial⟩
                    case measure => simp [intOf]; omega
                  · skip
                    have d1 : decide ((x[k].toNat : Int) < 97) = true := by simp; omega
                    have d3 : decide ((x[k].toNat : Int) < 48) = false := by simp; omega
                    have d4 : decide ((57 : Int) < (x[k].toNat : Int)) = true := by simp; omega
                    have d5 : ((x[k].toNat : Int) != 95) = true := by rw [bne_iff_ne]; omega
                    have HB3 := Lib.hid (HB.out (by rw [HU.out]; simp; omega))
                    clear HU HC HB h1 h3 h4 h5
                    go_wp2
                    go_ret
                    exact ⟨ret_bool HB3.out.symm, rfl⟩
                · skip
                  have d1 : decide ((x[k].toNat : Int) < 97) = true := by simp; omega
                  have d3 : decide ((x[k].toNat : Int) < 48) = false := by simp; omega
                  have d4 : decide ((57 : Int) < (x[k].toNat : Int)) = false := by simp; omega
                  have HC2 := Lib.hid (HC.out (by rw [HU.out]; simp; omega))
                  clear HU HC HB h1 h3 h4
                  go_wp2
                  go_roundw
                  case rel => exact ⟨k + 1, by omega, by go_num, HC2, by first | rfl | trivial⟩
                  case measure => simp [intOf]; omega
            · by_cases h2 : 122 < x[k].toNat
              · skip
                by_cases h3 : x[k].toNat < 48
                · skip
                  by_cases h5 : x[k].toNat = 95
                  · skip
                    have d1 : decide ((x[k].toNat : Int) < 97) = false := by simp; omega
                    have d2 : decide ((122 : Int) < (x[k].toNat : Int)) = true := by simp; omega
                    have d3 : decide ((x[k].toNat : Int) < 48) = true := by simp; omega
                    have d5 : ((x[k].toNat : Int) != 95) = false := by simp; omega
                    have HC2 := Lib.hid (HC.out (by rw [HU.out]; simp; omega))
                    clear HU HC HB h1 h2 h3 h5
                    go_wp2
                    go_roundw
                    case rel => exact ⟨k + 1, by omega, by go_num, HC2, by first | rfl | trivial⟩
                    case measure => simp [intOf]; omega
                  · skip
                    have d1 : decide ((x[k].toNat : Int) < 97) = false := by simp; omega
                    have d2 : decide ((122 : Int) < (x[k].toNat : Int)) = true := by simp; omega
                    have d3 : decide ((x[k].toNat : Int) < 48) = true := by simp; omega
                    have d5 : ((x[k].toNat : Int) != 95) = true := by rw [bne_iff_ne]; omega
                    have HB3 := Lib.hid (HB.out (by rw [HU.out]; simp; omega))
                    clear HU HC HB h1 h2 h3 h5
                    go_wp2
                    go_ret
                    exact ⟨ret_bool HB3.out.symm, rfl⟩
                · by_cases h4 : 57 < x[k].toNat
                  · skip
                    by_cases h5 : x[k].toNat = 95
                    · skip
                      have d1 : decide ((x[k].toNat : Int) < 97) = false := by simp; omega
                      have d2 : decide ((122 : Int) < (x[k].toNat : Int)) = true := by simp; omega
                      have d3 : decide ((x[k].toNat : Int) < 48) = false := by simp; omega
                      have d4 : decide ((57 : Int) < (x[k].toNat : Int)) = true := by simp; omega
                      have d5 : ((x[k].toNat : Int) != 95) = false := by simp; omega
                      have HC2 := Lib.hid (HC.out (by rw [HU.out]; simp; omega))
                      clear HU HC HB h1 h2 h3 h4 h5
                      go_wp2
                      go_roundw
                      case rel => exact ⟨k + 1, by omega, by go_num, HC2, by first | rfl | trivial⟩
                      case measure => simp [intOf]; omega
                    · skip
                      have d1 : decide ((x[k].toNat : Int) < 97) = false := by simp; omega
                      have d2 : decide ((122 : Int) < (x[k].toNat : Int)) = true := by simp; omega
                      have d3 : decide ((x[k].toNat : Int) < 48) = false := by simp; omega
                      have d4 : decide ((57 : Int) < (x[k].toNat : Int)) = true := by simp; omega
                      have d5 : ((x[k].toNat : Int) != 95) = true := by rw [bne_iff_ne]; omega
                      have HB3 := Lib.hid (HB.out (by rw [HU.out]; simp; omega))
                      clear HU HC HB h1 h2 h3 h4 h5
                      go_wp2
                      go_ret
                      exact ⟨ret_bool HB3.out.symm, rfl⟩
                  · skip
                    have d1 : decide ((x[k].toNat : Int) < 97) = false := by simp; omega
                    have d2 : decide ((122 : Int) < (x[k].toNat : Int)) = true := by simp; omega
                    have d3 : decide ((x[k].toNat : Int) < 48) = false := by simp; omega
                    have d4 : decide ((57 : Int) < (x[k].toNat : Int)) = false := by simp; omega
                    have HC2 := Lib.hid (HC.out (by rw [HU.out]; simp; omega))
                    clear HU HC HB h1 h2 h3 h4
                    go_wp2
                    go_roundw
                    case rel => exact ⟨k + 1, by omega, by go_num, HC2, by first | rfl | trivial⟩
                    case measure => simp [intOf]; omega
              · skip
                have d1 : decide ((x[k].toNat : Int) < 97) = false := by simp; omega
                have d2 : decide ((122 : Int) < (x[k].toNat : Int)) = false := by simp; omega
                have HC2 := Lib.hid (HC.out (by rw [HU.out]; simp; omega))
                clear HU HC HB h1 h2
                go_wp2
                go_roundw
                case rel => exact ⟨k + 1, by omega, by go_num, HC2, by first | rfl | trivial⟩
                case measure => simp [intOf]; omega
          · have HB := Lib.hid (HY.out (fun j h => HI.out j h (by omega)))
            clear HI HY
            go_wp2
            go_ret
            exact ⟨ret_bool HB.out.symm, rfl⟩
end Go.Proofs.YtichhbnpdhfimaaDoor
