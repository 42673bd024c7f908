/- Layer 3: what the reference makes of a relation is what the program makes of it (no walk). -/
import Derived.Test.YtichhbnpdhfimaaDoorVc
import Derived.Test.YtichhbnpdhfimaaDoorPd
import Derived.Lib.ItoaNum
namespace Go.Proofs.YtichhbnpdhfimaaDoor
open Go.RowKit Go.Proofs.Ws
/-- the lowest point so far, going down from i -/
def lowD (x i : Nat) : Nat → Nat
  | 0 => i
  | d + 1 => if x.testBit (i - d) then i - d else lowD x i d
theorem lowD_le (x i : Nat) : ∀ d, lowD x i d ≤ i
  | 0 => Nat.le_refl _
  | d + 1 => by
    unfold lowD
    split
    · omega
    · exact lowD_le x i d
theorem lowD_low {x i : Nat} (h0 : x ≠ 0) (hx : x < 18446744073709551616) (hl : low x ≤ i) : ∀ d, i - low x < d → d ≤ i + 1 → lowD x i d = low x
  | 0, h, _ => absurd h (by omega)
  | d + 1, h, h' => by
    unfold lowD
    by_cases e : i - d = low x
    · rw [e, testBit_low x h0 hx, if_pos rfl]
    · have hlt : i - d < low x := by omega
      rw [testBit_below x h0 hx _ hlt, if_neg (by decide)]
      exact lowD_low h0 hx hl d (by omega) (by omega)
def lQ (r : List Nat) (_n k : Nat) : List Int := (List.range k).map (fun i => (lowD (r.getD i 0) i (i + 1) : Int))
theorem lQ_length (r : List Nat) (n k : Nat) : (lQ r n k).length = k := by simp [lQ]
theorem lQ_succ (r : List Nat) (n k : Nat) : lQ r n (k + 1) = lQ r n k ++ [(lowD (r.getD k 0) k (k + 1) : Int)] := by unfold lQ; rw [List.range_succ, List.map_append]; rfl
theorem lQ_eq {r : List Nat} {n : Nat} (hw : Words r) (hb : ∀ i, i < n → (r.getD i 0).testBit i = true) : lQ r n n = zL r n n := by
  unfold lQ zL
  refine List.map_congr_left (fun i hi => ?_)
  have hi := List.mem_range.1 hi
  rw [if_pos hi]
  have hx := words_getD hw i
  have hbi := hb i hi
  have h0 : r.getD i 0 ≠ 0 := fun e => by rw [e, Nat.zero_testBit] at hbi; cases hbi
  have hl : low (r.getD i 0) ≤ i := by
    rcases Nat.lt_or_ge i (low (r.getD i 0)) with h | h
    · rw [testBit_below _ h0 hx _ h] at hbi; cases hbi
    · exact h
  rw [lowD_low h0 hx hl (i + 1) (by omega) (Nat.le_refl _)]
  unfold tzV
  rw [if_neg h0]
theorem rel_bits {p : List Int} {i : Nat} (hi : i < p.length) : ((relL p).getD i 0).testBit i = true := by
  rw [relL_getD p i hi, cls_bit]
  exact ⟨hi, rfl⟩
/-- both say yes or both say no -/
theorem of_both {r : List Nat} (hw : Words r) : (partErr (zL r r.length r.length) = 0 ∧ relL (zL r r.length r.length) = r) ↔ (partErr (lQ r r.length r.length) = 0 ∧ relL (lQ r r.length r.length) = r) := by
  constructor
  · rintro ⟨h1, h2⟩
    have hb : ∀ i, i < r.length → (r.getD i 0).testBit i = true := fun i hi => by
      have := rel_bits (p := zL r r.length r.length) (i := i) (by rw [zL_length]; exact hi)
      rwa [h2] at this
    rw [lQ_eq hw hb]
    exact ⟨h1, h2⟩
  · rintro ⟨h1, h2⟩
    have hb : ∀ i, i < r.length → (r.getD i 0).testBit i = true := fun i hi => by
      have := rel_bits (p := lQ r r.length r.length) (i := i) (by rw [lQ_length]; exact hi)
      rwa [h2] at this
    rw [← lQ_eq hw hb]
    exact ⟨h1, h2⟩
theorem of_same {r : List Nat} (hw : Words r) (h2 : relL (lQ r r.length r.length) = r) : lQ r r.length r.length = zL r r.length r.length := lQ_eq hw fun i hi => by
  have := rel_bits (p := lQ r r.length r.length) (i := i) (by rw [lQ_length]; exact hi)
  rwa [h2] at this
theorem blk_rel {l : List Int} (h : partErr l = 0) {i : Nat} (hi : i < l.length) : blkV l (i : Int) = (relL l).getD i 0 := by
  unfold blkV
  rw [if_pos ⟨h, by omega, by omega⟩, Int.toNat_natCast, relL_getD l i hi]
theorem rel_all {l : List Int} {r : List Nat} (hl : l.length = r.length) (h : ∀ i, i < r.length → r.getD i 0 = (relL l).getD i 0) : relL l = r := by
  apply List.ext_getElem
  · rw [relL_length, hl]
  · intro i h1 h2
    have := h i h2
    rw [List.getD_eq_getElem?_getD, List.getD_eq_getElem?_getD, List.getElem?_eq_getElem h1, List.getElem?_eq_getElem h2] at this
    exact this.symm
theorem bitLen_gt {x n : Nat} (hx : x < 18446744073709551616) (hn : n ≤ 64) : n < Lib.bitLen x ↔ 2 ^ n ≤ x := by
  constructor
  · intro h
    rcases Nat.lt_or_ge x (2 ^ n) with h' | h'
    · have := bitLen_le h' hn; omega
    · exact h'
  · intro h
    have e := Lib.bitLen_shift n x h hx
    have h1 : x / 2 ^ n ≠ 0 := by
      have := Nat.div_pos h (Nat.two_pow_pos n)
      omega
    have h2 := (Lib.bitLenAux_bounds 64 (x / 2 ^ n) (Nat.lt_of_le_of_lt (Nat.div_le_self _ _) hx) h1).1
    have e2 : Lib.bitLen (x / 2 ^ n) = Lib.bitLenAux 64 (x / 2 ^ n) := rfl
    omega
theorem of_ref_yes {r : List Nat} (h : r.length ≤ 64) (hf : ∀ k, k < r.length → Lib.bitLen (r.getD k 0) ≤ r.length) (hw : Words r) (h1 : partErr (lQ r r.length r.length) = 0) (h2 : ∀ i, i < r.length → r.getD i 0 = blkV (lQ r r.length r.length) (i : Int)) :
    ofV r = (lQ r r.length r.length, 0) := by
  have h3 : relL (lQ r r.length r.length) = r := rel_all (lQ_length _ _ _) (fun i hi => by rw [h2 i hi, blk_rel h1 (by rw [lQ_length]; exact hi)])
  have h4 := (of_both hw).2 ⟨h1, h3⟩
  rw [of_yes h hf h4.1 h4.2, of_same hw h3]
theorem of_ref_no1 {r : List Nat} (h : r.length ≤ 64) (hf : ∀ k, k < r.length → Lib.bitLen (r.getD k 0) ≤ r.length) (hw : Words r) (h1 : partErr (lQ r r.length r.length) ≠ 0) : ofV r = ([], 12) :=
  of_no h hf (fun hh => h1 ((of_both hw).1 hh).1)
theorem of_ref_no2 {r : List Nat} (h : r.length ≤ 64) (hf : ∀ k, k < r.length → Lib.bitLen (r.getD k 0) ≤ r.length) (hw : Words r) {i : Nat} (hi : i < r.length) (h2 : r.getD i 0 ≠ blkV (lQ r r.length r.length) (i : Int)) : ofV r = ([], 12) :=
  of_no h hf (fun hh => by
    have h3 := (of_both hw).1 hh
    exact h2 (by rw [blk_rel h3.1 (by rw [lQ_length]; exact hi), h3.2]))
end Go.Proofs.YtichhbnpdhfimaaDoor
