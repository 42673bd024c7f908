/- Layer 3: the block of a point on both sides, the number of blocks and the blocks by the program, refinement. -/
import Derived.Test.YtichhbnpdhfimaaDoorPb
namespace Go.Proofs.YtichhbnpdhfimaaDoor
open Go.RowKit Go.Proofs.Ws
theorem relL_length (l : List Int) : (relL l).length = l.length := by simp [relL]
theorem relL_getD (l : List Int) (i : Nat) (h : i < l.length) : (relL l).getD i 0 = cls l (l.getD i 0) l.length := by
  unfold relL; rw [List.getD_eq_getElem?_getD, List.getElem?_map, List.getElem?_range h]; rfl
theorem relL_words {l : List Int} (h : l.length ≤ 64) : Words (relL l) := fun x hx => by
  unfold relL at hx
  obtain ⟨i, _, rfl⟩ := List.mem_map.1 hx
  exact cls_lt l _ _ h
/-- the block of a point -/
def blkV (l : List Int) (i : Int) : Nat := if partErr l = 0 ∧ 0 ≤ i ∧ i < l.length then cls l (l.getD i.toNat 0) l.length else 0
theorem toB_drew {P : Program} {f : FuncId} {a : Array Value} {w : World} {v : Ending} (h : Calls P f a w fun e w' => e = v ∧ ∃ q, w' = w.drewN q) : Calls P f a w fun e w' => e = v ∧ Below w.heap.size w w' :=
  h.mono fun _ _ ⟨he, q, hw⟩ => ⟨he, hw ▸ below_drewN (Below.refl _ _) q⟩
set_option maxRecDepth 100000 in
theorem pBlock_any (l : List Int) (i : Int) (A : Option Addr) (n c : Nat) (w : World) (hR : Reads w w.heap.size 1 A n (ints l)) (hm : n ≤ maxLen) :
    Calls Tryd.prog 23 #[.slice A n c, .int .i64 i] w fun e w' => e = .returned (.int .u64 (blkV l i : Int)) ∧ Below w.heap.size w w' := by
  have hl := hR.int_len
  have HC := Lib.hid (pRelation_any l A n c w hR hm)
  clear hR
  unfold maxLen at hm
  by_cases h0 : partErr l = 0
  · have h64 := (part_of hl h0).1
    by_cases hi : 0 ≤ i ∧ i < n
    · obtain ⟨k, rfl⟩ := Int.eq_ofNat_of_zero_le hi.1
      have hk : k < n := by omega
      have HV : Hid (blkV l (k : Int) = cls l (l.getD k 0) l.length) := Lib.hid (by unfold blkV; rw [if_pos ⟨h0, by omega, by omega⟩]; rfl)
      have H0 := Lib.hid h0
      clear h0 hi
      go_enter Tryd.func23, Tryd.ntmps23
      go_wp2_with fail
      refine (HC.out).mono ?_
      rintro e w1 (⟨_, A1, c1, rfl, hR1, hb⟩ | ⟨hx, _⟩)
      · have hlen : (relL l).length = n := by rw [relL_length]; exact hl
        obtain ⟨ad, rfl, _, hc⟩ := hR1.word_k (show k < (relL l).length by omega)
        rw [relL_getD l k (by omega)] at hc
        rw [hlen]
        have HB := Lib.hid hb
        have hd1 : decide ((k : Int) < 0) = false := by simp
        have hd2 : decide ((n : Int) ≤ (k : Int)) = false := by simp; omega
        have hd3 : decide (n ≤ k) = false := by simp; omega
        generalize cls l (l.getD k 0) l.length = x at *
        clear hR1 hb
        go_wp2
        go_ret
        exact ⟨ret_u64 (by rw [HV.out]), HB.out⟩
      · exact absurd H0.out hx
    · have HV : Hid (blkV l i = 0) := Lib.hid (by unfold blkV; rw [if_neg (by rw [hl]; rintro ⟨_, h⟩; exact hi h)])
      have H0 := Lib.hid h0
      clear h0
      by_cases hneg : i < 0
      · have hd1 : decide (i < 0) = true := by simp; omega
        clear hi
        go_enter Tryd.func23, Tryd.ntmps23
        go_wp2_with fail
        refine (HC.out).mono ?_
        rintro e w1 (⟨_, A1, c1, rfl, hR1, hb⟩ | ⟨hx, _⟩)
        · have HB := Lib.hid hb
          clear hR1 hb
          go_wp2
          go_ret
          exact ⟨ret_u64 (by rw [HV.out]; rfl), HB.out⟩
        · exact absurd H0.out hx
      · have hge : (n : Int) ≤ i := by omega
        have hd1 : decide (i < 0) = false := by simp; omega
        have hd2 : decide ((n : Int) ≤ i) = true := by simp; omega
        clear hi
        go_enter Tryd.func23, Tryd.ntmps23
        go_wp2_with fail
        refine (HC.out).mono ?_
        rintro e w1 (⟨_, A1, c1, rfl, hR1, hb⟩ | ⟨hx, _⟩)
        · have HB := Lib.hid hb
          have hlen : (relL l).length = n := by rw [relL_length]; exact hl
          rw [hlen]
          clear hR1 hb
          go_wp2
          go_ret
          exact ⟨ret_u64 (by rw [HV.out]; rfl), HB.out⟩
        · exact absurd H0.out hx
  · have HV : Hid (blkV l i = 0) := Lib.hid (by unfold blkV; rw [if_neg (fun h => h0 h.1)])
    have H0 := Lib.hid h0
    clear h0
    go_enter Tryd.func23, Tryd.ntmps23
    go_wp2_with fail
    refine (HC.out).mono ?_
    rintro e w1 (⟨hx, _⟩ | ⟨_, rfl, rfl⟩)
    · exact absurd hx H0.out
    · by_cases hneg : i < 0
      · have hd1 : decide (i < 0) = true := by simp; omega
        go_wp2
        go_ret
        exact ⟨ret_u64 (by rw [HV.out]; rfl), Below.refl _ _⟩
      · have hd1 : decide (i < 0) = false := by simp; omega
        have hd2 : decide ((0 : Int) ≤ i) = true := by simp; omega
        go_wp2
        go_ret
        exact ⟨ret_u64 (by rw [HV.out]; rfl), Below.refl _ _⟩
/-- the sum of the bits so far -/
theorem cls_add (l : List Int) (x : Int) (k : Nat) : cls l x k < 2 ^ k ∧ cls l x k ||| p2 k = cls l x k + 2 ^ k := by
  have h : cls l x k < 2 ^ k := by
    apply Nat.lt_pow_two_of_testBit
    intro v hv
    cases hb : (cls l x k).testBit v
    · rfl
    · have := (cls_bit l x v k).1 hb; omega
  refine ⟨h, ?_⟩
  have := or_add k (2 ^ k) (cls l x k) (Nat.dvd_refl _) h
  unfold p2
  rw [this, Nat.add_comm]
end Go.Proofs.YtichhbnpdhfimaaDoor
