/- Contracts of layer 2's reference: membership, image, equality of lists of words; and what a slice of words made here holds. -/
import Derived.Test.YtogjbghieoifjaaDoorRb
import Derived.Lib.Builder
namespace Go.Proofs.YtogjbghieoifjaaDoor
open Go.RowKit Go.Proofs.Ws
theorem allV_nat (n : Nat) (h : n ≤ 64) : allV (n : Int) = 2 ^ n - 1 := by unfold allV; rw [if_pos (by omega)]; rfl
/-- the successors, point by point -/
def imgU (R : List Nat) (x n : Nat) : Nat := (List.range n).foldl (fun a u => if x.testBit u then a ||| R.getD u 0 else a) 0
theorem imgU_succ (R : List Nat) (x n : Nat) : imgU R x (n + 1) = if x.testBit n then imgU R x n ||| R.getD n 0 else imgU R x n := by
  unfold imgU; rw [List.range_succ, List.foldl_append]; rfl
theorem foldl_filter_if (R : List Nat) (p : Nat → Bool) : ∀ (l : List Nat) (a : Nat), (l.filter p).foldl (fun a u => a ||| R.getD u 0) a = l.foldl (fun a u => if p u then a ||| R.getD u 0 else a) a
  | [], _ => rfl
  | u :: l, a => by
    by_cases h : p u
    · rw [List.filter_cons_of_pos h, List.foldl_cons, List.foldl_cons, if_pos h, foldl_filter_if R p l]
    · rw [List.filter_cons_of_neg h, List.foldl_cons, if_neg h, foldl_filter_if R p l]
theorem mem_below (x n : Nat) (h : n ≤ 64) : mem (x &&& allV n) = (List.range n).filter (fun u => x.testBit u) := by
  have e : List.range 64 = List.range n ++ List.range' n (64 - n) := by
    rw [List.range_eq_range', List.range_eq_range']
    have : 64 = n + (64 - n) := by omega
    conv => lhs; rw [this]
    rw [← List.range'_append_1, Nat.zero_add]
  unfold mem
  rw [e, List.filter_append]
  have f1 : (List.range' n (64 - n)).filter (fun w => (x &&& allV n).testBit w) = [] := by
    rw [List.filter_eq_nil_iff]
    intro a ha
    have := (List.mem_range'_1.1 ha).1
    rw [Nat.testBit_and, allV_nat n h, Nat.testBit_two_pow_sub_one]
    simp; omega
  rw [f1, List.append_nil]
  apply List.filter_congr
  intro a ha
  have := List.mem_range.1 ha
  rw [Nat.testBit_and, allV_nat n h, Nat.testBit_two_pow_sub_one]
  simp [this]
theorem imgU_img (R : List Nat) (x : Nat) (h : R.length ≤ 64) : imgU R x R.length = imgV R x := by
  unfold imgU imgV imgL
  rw [mem_below x _ h, foldl_filter_if]
theorem imgU_lt {R : List Nat} (h : Words R) (x : Nat) : ∀ n, imgU R x n < 18446744073709551616
  | 0 => by show 0 < 18446744073709551616; decide
  | n + 1 => by
    rw [imgU_succ]
    split
    · exact Nat.or_lt_two_pow (n := 64) (imgU_lt h x n) (words_getD h n)
    · exact imgU_lt h x n
theorem in_any (s i : Nat) (w : World) (hs : s < 18446744073709551616) (hi : i < 64) :
    Calls Tryd.prog 58 #[.int .u64 s, .int .i64 i] w fun e w' => e = .returned (.bool (s.testBit i)) ∧ w = w' := by
  have e1 : s.testBit i = decide (s / 2 ^ i % 2 = 1) := Nat.testBit_eq_decide_div_mod_eq
  have HE := Lib.hid e1
  have hd : s / 2 ^ i < 18446744073709551616 := Nat.lt_of_le_of_lt (Nat.div_le_self _ _) hs
  have hb : bits .and .u64 ((s : Int) / ((p2 i : Nat) : Int)) 1 = ((s / 2 ^ i % 2 : Nat) : Int) := by
    rw [show (s : Int) / ((p2 i : Nat) : Int) = ((s / 2 ^ i : Nat) : Int) from by unfold p2; omega, show (1 : Int) = ((1 : Nat) : Int) from rfl, u64_and_nat _ 1 hd (by decide), Nat.and_one_is_mod]
  clear e1 hd
  go_enter Tryd.func58, Tryd.ntmps58
  go_wp2
  go_ret
  refine ⟨ret_bool ?_, rfl⟩
  rw [show (2 : Int) ^ i = ((p2 i : Nat) : Int) from by simp [p2], hb, HE.out]
  have h3 : s / 2 ^ i % 2 = 0 ∨ s / 2 ^ i % 2 = 1 := by omega
  rcases h3 with h3 | h3 <;> rw [h3] <;> rfl
/-- block g holds just these words -/
def HoldsU (w : World) (g : Nat) (l : List Nat) : Prop := w.heap[g]? = some (.cells (us l).toArray 34 (0, 0))
theorem Tryd.infoU : (Tryd.prog.info? 34).map (fun i => (i.zero, i.size, i.bytes)) = some (some (.int .u64 0), 1, 8) := by kernel_rfl
theorem made_us (n : Nat) : madeCells (Value.int IntKind.u64 0).cells n = (us (List.replicate n 0)).toArray := by
  apply Array.ext
  · simp [madeCells, us]
  · intro i h1 h2
    simp [madeCells, us, Value.cells, Nat.mod_one]
theorem makeU (w : World) (n : Nat) (hn : n ≤ 1000000) : (Instr.makeSlice 22 (.int .i64 (n : Int)) (.int .i64 (n : Int))).run Tryd.prog w = .ok (.slice (some ⟨w.heap.size, 0, none⟩) n n) (w.alloc (.cells (us (List.replicate n 0)).toArray 34)) := by
  obtain ⟨i0, hi, hz0, hz1, hz2⟩ := info_parts Tryd.infoU
  have h := run_make (P := Tryd.prog) w 22 34 i0 (.int .u64 0) Tryd.underlying22 hi hz0 .i64 .i64 n n (by omega) (Int.le_refl _) (by rw [hz2]; omega) (by omega)
  rw [h, hz1]
  simp only [Int.toNat_natCast, Nat.mul_one]
  rw [made_us]
theorem HoldsU.cell {w : World} {g : Nat} {l : List Nat} (h : HoldsU w g l) (k : Nat) (hk : k < l.length) : w.cell? ⟨g, k, none⟩ = some (.int .u64 ((l.getD k 0 : Nat) : Int)) := by
  rw [Lib.cell_of_heap h, List.getElem?_toArray]
  unfold us
  rw [List.getElem?_map, List.getElem?_eq_getElem hk, List.getD_eq_getElem?_getD, List.getElem?_eq_getElem hk]
  rfl
theorem HoldsU.free {w : World} {g : Nat} {l : List Nat} (h : HoldsU w g l) (k : Nat) : w.frozen? ⟨g, k, none⟩ = false := Lib.frozen_of_heap h k
theorem HoldsU.put {w : World} {g : Nat} {l : List Nat} (h : HoldsU w g l) (k x : Nat) : HoldsU (w.setCell ⟨g, k, none⟩ (.int .u64 (x : Int))) g (l.set k x) := by
  unfold HoldsU at h ⊢
  have e : (us (l.set k x)).toArray = (us l).toArray.setIfInBounds k (.int .u64 (x : Int)) := by
    unfold us
    rw [List.map_set]
    simp
  rw [e]
  simp [World.setCell, Array.getElem?_modify, h]
theorem HoldsU.far {w : World} {g g' : Nat} {l : List Nat} (h : HoldsU w g l) (hne : g ≠ g') (k : Nat) (u : Value) : HoldsU (w.setCell ⟨g', k, none⟩ u) g l :=
  (Below.heap_setCell w ⟨g', k, none⟩ u g hne).trans h
theorem HoldsU.made (w : World) (l : List Nat) : HoldsU (w.alloc (.cells (us l).toArray 34)) w.heap.size l := heap_alloc_new w _
theorem HoldsU.lt {w : World} {g : Nat} {l : List Nat} (h : HoldsU w g l) : g < w.heap.size := (Array.getElem?_eq_some_iff.1 h).1
theorem HoldsU.alloc {w : World} {g : Nat} {l : List Nat} (h : HoldsU w g l) (o : Obj) : HoldsU (w.alloc o) g l := (Below.heap_alloc w o g h.lt).trans h
theorem addr0 (g j : Nat) : (⟨g, 0, none⟩ : Addr).add j = ⟨g, j, none⟩ := by
  unfold Addr.add
  split
  · subst_vars; rfl
  · simp
theorem HoldsU.reads {w : World} {g : Nat} {l : List Nat} (h : HoldsU w g l) : Reads w w.heap.size 1 (some ⟨g, 0, none⟩) l.length (us l) := by
  refine ⟨by rw [us_length]; omega, fun _ => ⟨_, rfl, h.lt, fun j u hu => ?_⟩⟩
  rw [addr0]
  unfold us at hu
  rw [List.getElem?_map] at hu
  obtain ⟨k, hk, rfl⟩ := Option.map_eq_some_iff.1 hu
  have hj : j < l.length := by
    by_cases h' : j < l.length
    · exact h'
    · rw [List.getElem?_eq_none (by omega)] at hk; cases hk
  rw [h.cell j hj, List.getD_eq_getElem?_getD, hk]; rfl
/-- what a call hands back: a new relation, and no error -/
def GivesR (l : List Nat) (w : World) (e : Ending) (w' : World) : Prop :=
  ∃ A c, e = .returned (.tuple #[.slice A l.length c, .int .i64 0]) ∧ Reads w' w'.heap.size 1 A l.length (us l) ∧ Below w.heap.size w w'
/-- .. or nothing, and an error -/
def GivesE (x : Int) (w : World) (e : Ending) (w' : World) : Prop := e = .returned (.tuple #[.slice none 0 0, .int .i64 x]) ∧ Below w.heap.size w w'
set_option maxRecDepth 100000 in
theorem same_any (l m : List Nat) (A A2 : Option Addr) (n n2 c c2 B : Nat) (w : World) (hR : Reads w B 1 A n (us l)) (hR2 : Reads w B 1 A2 n2 (us m)) (hn : n ≤ maxLen) (hn2 : n2 ≤ maxLen) :
    Calls Tryd.prog 19 #[.slice A n c, .slice A2 n2 c2] w fun e w' => e = .returned (.bool (decide (l = m))) ∧ ∃ q, w' = w.drewN q := by
  unfold maxLen at hn hn2
  have e1 := hR.word_len
  have e2 := hR2.word_len
  by_cases h : n = n2
  · subst h
    have HL := Lib.hid e1
    have HL2 := Lib.hid e2
    clear e1 e2
    go_enter Tryd.func19, Tryd.ntmps19
    go_wp2
    go_loopw [5] (fun i wr => ∃ k q : Nat, k ≤ n ∧ i = .int .i64 k ∧ Hid (decide (l = m) = decide (l.drop k = m.drop k)) ∧ wr = w.drewN q) (fun i _ => n - (intOf i).toNat)
    case atStart => exact ⟨0, 0, Nat.zero_le _, rfl, Lib.hid rfl, rfl⟩
    case round =>
      obtain ⟨k, q, hk, rfl, HI, rfl⟩ := hrel
      by_cases hlt : k < n
      · obtain ⟨ad, x, rfl, hb, hkl, hx, hxm, hd, hc⟩ := hR.word_at hlt
        obtain ⟨ad2, y, rfl, hb2, hkl2, hy, hym, hd2, hc2⟩ := hR2.word_at hlt
        have HD := Lib.hid hd
        have HD2 := Lib.hid hd2
        clear hkl hx hxm hd hkl2 hy hym hd2
        by_cases hxy : x = y
        · subst hxy
          have HI2 : Hid (decide (l = m) = decide (l.drop (k + 1) = m.drop (k + 1))) := Lib.hid (by rw [HI.out, HD.out, HD2.out]; exact decide_eq_decide.2 (by simp))
          go_wp2
          go_quiet (fail)
          go_wp2
          go_roundw
          case rel => exact ⟨k + 1, q + nq, by omega, by go_num, HI2, by first | rfl | rw [World.drewN_drewN]⟩
          case measure => simp [intOf]; omega
        · have HE : Hid (decide (l = m) = false) := Lib.hid (by rw [HI.out, HD.out, HD2.out]; simp [hxy])
          have hne : ((x : Int) != (y : Int)) = true := by simp; omega
          clear hxy
          go_wp2
          go_quiet (fail)
          go_wp2
          go_ret
          exact ⟨ret_bool HE.out.symm, ⟨q + nq, by first | rfl | rw [World.drewN_drewN]⟩⟩
      · have HE : Hid (decide (l = m) = true) := Lib.hid (by rw [HI.out, List.drop_eq_nil_of_le (by have := HL.out; omega), List.drop_eq_nil_of_le (by have := HL2.out; omega)]; rfl)
        go_wp2
        go_ret
        exact ⟨ret_bool HE.out.symm, ⟨q, rfl⟩⟩
  · have hne : ((n : Int) != (n2 : Int)) = true := by simp; omega
    have HE : Hid (decide (l = m) = false) := Lib.hid (by simp; intro hh; subst hh; omega)
    clear e1 e2
    go_enter Tryd.func19, Tryd.ntmps19
    go_wp2
    go_ret
    exact ⟨ret_bool HE.out.symm, ⟨0, rfl⟩⟩
end Go.Proofs.YtogjbghieoifjaaDoor
