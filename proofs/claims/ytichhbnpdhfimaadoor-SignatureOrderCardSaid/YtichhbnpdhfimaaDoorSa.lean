/- Layer 4: lists of strings in cells; letters, digits, the search of a string in a list. -/
import Derived.Test.YtichhbnpdhfimaaDoorAb
import Derived.Test.YtichhbnpdhfimaaDoorSm
import Derived.Lib.SlicesS
namespace Go.Proofs.YtichhbnpdhfimaaDoor
open Go.RowKit Go.Proofs.Ws
/-- a list of strings in cells -/
def ss (l : List ByteArray) : List Value := l.map Value.string
theorem ss_length (l : List ByteArray) : (ss l).length = l.length := by simp [ss]
theorem ss_append (l m : List ByteArray) : ss (l ++ m) = ss l ++ ss m := by simp [ss]
theorem Reads.str_len {w : World} {B n : Nat} {A : Option Addr} {l : List ByteArray} (h : Reads w B 1 A n (ss l)) : l.length = n := by
  have := h.1; rw [ss_length] at this; omega
theorem Reads.str_at {w : World} {B n : Nat} {A : Option Addr} {l : List ByteArray} (h : Reads w B 1 A n (ss l)) {k : Nat} (hk : k < n) :
    ∃ ad, A = some ad ∧ ad.block < B ∧ w.cell? (ad.add k) = some (.string (l.getD k ByteArray.empty)) := by
  obtain ⟨ad, u, hA, hb, hu, hc⟩ := h.at_ hk
  unfold ss at hu
  rw [List.getElem?_map] at hu
  obtain ⟨z, hz, rfl⟩ := Option.map_eq_some_iff.1 hu
  exact ⟨ad, hA, hb, by rw [List.getD_eq_getElem?_getD, hz]; exact hc⟩
theorem beq_str {x y : ByteArray} (h : x = y) : (x.toList == y.toList) = true := (Lib.bytes_beq_iff x y).2 h
theorem bne_str {x y : ByteArray} (h : x ≠ y) : (x.toList == y.toList) = false := (Lib.bytes_beq_false_iff x y).2 h
theorem pLetter_any (m : Nat) (w : World) : Calls Tryd.prog 64 #[.int .u8 m] w fun e w' => e = .returned (.bool (lowN m)) ∧ w = w' := by
  by_cases h1 : 97 ≤ m
  · by_cases h2 : m ≤ 122
    · have HB := Lib.hid (show lowN m = true by unfold lowN; rw [decide_eq_true h1, decide_eq_true h2]; rfl)
      have d1 : decide ((97 : Int) ≤ (m : Int)) = true := by simp; omega
      have d2 : decide ((m : Int) ≤ 122) = true := by simp; omega
      clear h1 h2
      go_enter Tryd.func64, Tryd.ntmps64
      go_wp2
      go_ret
      exact ⟨ret_bool HB.out.symm, rfl⟩
    · have HB := Lib.hid (show lowN m = false by unfold lowN; rw [decide_eq_false h2, Bool.and_false])
      have d1 : decide ((97 : Int) ≤ (m : Int)) = true := by simp; omega
      have d2 : decide ((m : Int) ≤ 122) = false := by simp; omega
      clear h1 h2
      go_enter Tryd.func64, Tryd.ntmps64
      go_wp2
      go_ret
      exact ⟨ret_bool HB.out.symm, rfl⟩
  · have HB := Lib.hid (show lowN m = false by unfold lowN; rw [decide_eq_false h1, Bool.false_and])
    have d1 : decide ((97 : Int) ≤ (m : Int)) = false := by simp; omega
    clear h1
    go_enter Tryd.func64, Tryd.ntmps64
    go_wp2
    go_ret
    exact ⟨ret_bool HB.out.symm, rfl⟩
theorem pDigit_any (m : Nat) (w : World) : Calls Tryd.prog 65 #[.int .u8 m] w fun e w' => e = .returned (.bool (digN m)) ∧ w = w' := by
  by_cases h1 : 48 ≤ m
  · by_cases h2 : m ≤ 57
    · have HB := Lib.hid (show digN m = true by unfold digN; rw [decide_eq_true h1, decide_eq_true h2]; rfl)
      have d1 : decide ((48 : Int) ≤ (m : Int)) = true := by simp; omega
      have d2 : decide ((m : Int) ≤ 57) = true := by simp; omega
      clear h1 h2
      go_enter Tryd.func65, Tryd.ntmps65
      go_wp2
      go_ret
      exact ⟨ret_bool HB.out.symm, rfl⟩
    · have HB := Lib.hid (show digN m = false by unfold digN; rw [decide_eq_false h2, Bool.and_false])
      have d1 : decide ((48 : Int) ≤ (m : Int)) = true := by simp; omega
      have d2 : decide ((m : Int) ≤ 57) = false := by simp; omega
      clear h1 h2
      go_enter Tryd.func65, Tryd.ntmps65
      go_wp2
      go_ret
      exact ⟨ret_bool HB.out.symm, rfl⟩
  · have HB := Lib.hid (show digN m = false by unfold digN; rw [decide_eq_false h1, Bool.false_and])
    have d1 : decide ((48 : Int) ≤ (m : Int)) = false := by simp; omega
    clear h1
    go_enter Tryd.func65, Tryd.ntmps65
    go_wp2
    go_ret
    exact ⟨ret_bool HB.out.symm, rfl⟩
theorem idx_done {l : List ByteArray} {x : ByteArray} (h : ∀ j, j < l.length → l.getD j ByteArray.empty ≠ x) : Lib.idxOfS l x = -1 := by
  have := Lib.idxOfS_miss l l.length x h
  rwa [List.take_length] at this
theorem idx_found {l : List ByteArray} {x : ByteArray} {k : Nat} (hk : k < l.length) (hx : l.getD k ByteArray.empty = x) (h : ∀ j, j < k → l.getD j ByteArray.empty ≠ x) : Lib.idxOfS l x = (k : Nat) := by
  have := Lib.idxOfS_hit l l.length k x hk (Nat.le_refl _) hx h
  rwa [List.take_length] at this
set_option maxRecDepth 100000 in
theorem pIndex_any (l : List ByteArray) (x : ByteArray) (A : Option Addr) (n c B : Nat) (w : World) (hR : Reads w B 1 A n (ss l)) (hm : n ≤ maxLen) :
    Calls Tryd.prog 70 #[.slice A n c, .string x] w fun e w' => e = .returned (.int .i64 (Lib.idxOfS l x)) ∧ w = w' := by
  unfold maxLen at hm
  have hl := hR.str_len
  have HD := Lib.hid (fun h => idx_done (l := l) (x := x) h)
  have HF := Lib.hid (fun k (hk : k < n) => idx_found (l := l) (x := x) (k := k) (by omega))
  have HL := Lib.hid hl
  clear hl
  go_enter Tryd.func70, Tryd.ntmps70
  go_wp2
  go_loopw [8] (fun i wr => ∃ k : Nat, k ≤ n ∧ i = .int .i64 k ∧ Hid (∀ j, j < k → l.getD j ByteArray.empty ≠ x) ∧ wr = w) (fun i _ => n - (intOf i).toNat)
  case atStart => exact ⟨0, Nat.zero_le _, rfl, Lib.hid (fun i hi => absurd hi (by omega)), rfl⟩
  case round =>
    obtain ⟨k, hk, rfl, HI, rfl⟩ := hrel
    by_cases hlt : k < n
    · obtain ⟨ad, rfl, hb, hc⟩ := hR.str_at hlt
      by_cases he : l.getD k ByteArray.empty = x
      · have HB := Lib.hid (HF.out k hlt he HI.out)
        have hq := beq_str he.symm
        generalize l.getD k ByteArray.empty = z at *
        clear he
        go_wp2
        go_ret
        exact ⟨ret_i64 HB.out.symm, rfl⟩
      · have HN : Hid (∀ j, j < k + 1 → l.getD j ByteArray.empty ≠ x) := Lib.hid (fun j hj => by
          by_cases e : j = k
          · subst e; exact he
          · exact HI.out j (by omega))
        have hq := bne_str (fun e => he e.symm)
        generalize l.getD k ByteArray.empty = z at *
        clear he HI
        go_wp2
        go_roundw
        case rel => exact ⟨k + 1, by omega, by go_num, HN, by first | rfl | trivial⟩
        case measure => simp [intOf]; omega
    · have HB := Lib.hid (HD.out (fun j hj => HI.out j (by have := HL.out; omega)))
      clear HI
      go_wp2
      go_ret
      exact ⟨ret_i64 HB.out.symm, rfl⟩
theorem pContains_any (l : List ByteArray) (x : ByteArray) (A : Option Addr) (n c B : Nat) (w : World) (hR : Reads w B 1 A n (ss l)) (hm : n ≤ maxLen) :
    Calls Tryd.prog 61 #[.slice A n c, .string x] w fun e w' => e = .returned (.bool (Lib.containsS l x)) ∧ w = w' := by
  have HX := Lib.hid (pIndex_any l x A n c B w hR hm)
  have HB : Hid (Lib.containsS l x = decide (0 ≤ Lib.idxOfS l x)) := Lib.hid rfl
  generalize Lib.idxOfS l x = z at *
  clear hR hm
  go_enter Tryd.func61, Tryd.ntmps61
  go_wp2_with fail
  refine (HX.out).mono ?_
  rintro e w' ⟨rfl, rfl⟩
  go_wp2
  go_ret
  exact ⟨ret_bool HB.out.symm, rfl⟩
set_option maxRecDepth 100000 in
theorem pRefFind_any (l : List ByteArray) (x : ByteArray) (A : Option Addr) (n c B : Nat) (w : World) (hR : Reads w B 1 A n (ss l)) (hm : n ≤ maxLen) :
    Calls Tryd.prog 63 #[.slice A n c, .string x] w fun e w' => e = .returned (.int .i64 (Lib.idxOfS l x)) ∧ w = w' := by
  unfold maxLen at hm
  have hl := hR.str_len
  have HD := Lib.hid (fun h => idx_done (l := l) (x := x) h)
  have HF := Lib.hid (fun k (hk : k < n) => idx_found (l := l) (x := x) (k := k) (by omega))
  have HL := Lib.hid hl
  clear hl
  go_enter Tryd.func63, Tryd.ntmps63
  go_wp2
  go_loopw [5] (fun i wr => ∃ k : Nat, k ≤ n ∧ i = .int .i64 k ∧ Hid (∀ j, j < k → l.getD j ByteArray.empty ≠ x) ∧ wr = w) (fun i _ => n - (intOf i).toNat)
  case atStart => exact ⟨0, Nat.zero_le _, rfl, Lib.hid (fun i hi => absurd hi (by omega)), rfl⟩
  case round =>
    obtain ⟨k, hk, rfl, HI, rfl⟩ := hrel
    by_cases hlt : k < n
    · obtain ⟨ad, rfl, hb, hc⟩ := hR.str_at hlt
      by_cases he : l.getD k ByteArray.empty = x
      · have HB := Lib.hid (HF.out k hlt he HI.out)
        have hq := beq_str he
        generalize l.getD k ByteArray.empty = z at *
        clear he
        go_wp2
        go_ret
        exact ⟨ret_i64 HB.out.symm, rfl⟩
      · have HN : Hid (∀ j, j < k + 1 → l.getD j ByteArray.empty ≠ x) := Lib.hid (fun j hj => by
          by_cases e : j = k
          · subst e; exact he
          · exact HI.out j (by omega))
        have hq := bne_str he
        generalize l.getD k ByteArray.empty = z at *
        clear he HI
        go_wp2
        go_roundw
        case rel => exact ⟨k + 1, by omega, by go_num, HN, by first | rfl | trivial⟩
        case measure => simp [intOf]; omega
    · have HB := Lib.hid (HD.out (fun j hj => HI.out j (by have := HL.out; omega)))
      clear HI
      go_wp2
      go_ret
      exact ⟨ret_i64 HB.out.symm, rfl⟩
end Go.Proofs.YtichhbnpdhfimaaDoor
