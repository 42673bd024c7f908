/- Layer 6: texts joined: Pb Pc Pe Pf Pg Ph Pi Pj Pk Pl Pm Pn Po Pra Pd. -/
import Derived.Test.YtfbgabcdeecpoaaDoorNMa
import Derived.BigRegion
import Derived.Deep.RegionWith
import Derived.Maps.OwnSet
import Derived.Maps.OwnOps
import Derived.Maps.Views
import Derived.Lib.Walk
import Derived.Lib.SliceRun
/- Layer 3: the relation of a partition, by the program. -/
namespace Go.Proofs.YtfbgabcdeecpoaaDoor
open Go.RowKit Go.Proofs.Ws
/-- the points before k with a number -/
def cls (l : List Int) (x : Int) (k : Nat) : Nat := (List.range k).foldl (fun a j => if l.getD j 0 = x then a ||| p2 j else a) 0
theorem cls_succ (l : List Int) (x : Int) (k : Nat) : cls l x (k + 1) = if l.getD k 0 = x then cls l x k ||| p2 k else cls l x k := by
  unfold cls; rw [List.range_succ, List.foldl_append]; rfl
theorem cls_lt (l : List Int) (x : Int) : ∀ k, k ≤ 64 → cls l x k < 18446744073709551616
  | 0, _ => by show 0 < 18446744073709551616; decide
  | k + 1, h => by
    rw [cls_succ]
    split
    · exact (or_pow _ k (cls_lt l x k (by omega)) (by omega)).2
    · exact cls_lt l x k (by omega)
theorem cls_bit (l : List Int) (x : Int) (v : Nat) : ∀ k, (cls l x k).testBit v = true ↔ v < k ∧ l.getD v 0 = x
  | 0 => by simp [cls]
  | k + 1 => by
    rw [cls_succ]
    split
    · rename_i h
      rw [Nat.testBit_or, Bool.or_eq_true, cls_bit l x v k, p2_bit, decide_eq_true_eq]
      constructor
      · rintro (⟨h1, h2⟩ | rfl)
        · exact ⟨by omega, h2⟩
        · exact ⟨by omega, h⟩
      · rintro ⟨h1, h2⟩
        by_cases e : k = v
        · exact .inr e
        · exact .inl ⟨by omega, h2⟩
    · rename_i h
      rw [cls_bit l x v k]
      constructor
      · rintro ⟨h1, h2⟩; exact ⟨by omega, h2⟩
      · rintro ⟨h1, h2⟩
        by_cases e : v = k
        · subst e; exact absurd h2 h
        · exact ⟨by omega, h2⟩
/-- the relation of being together -/
def relL (l : List Int) : List Nat := (List.range l.length).map (fun i => cls l (l.getD i 0) l.length)
def mapR (f : Nat → Nat) (n : Nat) : List Nat := (List.range n).map f
theorem mapR_length (f : Nat → Nat) (n : Nat) : (mapR f n).length = n := by simp [mapR]
theorem mapR_getD (f : Nat → Nat) (n k : Nat) (h : k < n) : (mapR f n).getD k 0 = f k := by
  unfold mapR; rw [List.getD_eq_getElem?_getD, List.getElem?_map, List.getElem?_range h]; rfl
theorem mapR_congr {f g : Nat → Nat} {n : Nat} (h : ∀ k, k < n → f k = g k) : mapR f n = mapR g n := by
  unfold mapR; exact List.map_congr_left (fun k hk => h k (List.mem_range.1 hk))
theorem mapR_set {f g : Nat → Nat} {n x v : Nat} (hx : g x = v) (hy : ∀ y, y < n → y ≠ x → g y = f y) : (mapR f n).set x v = mapR g n := by
  apply List.ext_getElem
  · simp [mapR]
  · intro i h1 h2
    rw [List.getElem_set]
    have hi : i < n := by rw [mapR_length] at h2; exact h2
    simp only [mapR, List.getElem_map, List.getElem_range]
    split
    · rename_i e; subst e; exact hx.symm
    · rename_i e; exact (hy i hi (fun e' => e e'.symm)).symm
theorem mapR_zero (n : Nat) : mapR (fun _ => 0) n = List.replicate n 0 := by
  apply List.ext_getElem
  · simp [mapR]
  · intro i h1 h2; simp [mapR]
/-- what the check of a partition says -/
theorem part_of {l : List Int} {n : Nat} (hl : l.length = n) (h : partErr l = 0) : n ≤ 64 ∧ ∀ i, i < n → ∃ y : Nat, l.getD i 0 = (y : Int) ∧ y ≤ i ∧ l.getD y 0 = (y : Int) := by
  unfold partErr at h
  rw [hl] at h
  split at h
  · cases h
  · split at h
    · rename_i h1 h2
      refine ⟨by omega, fun i hi => ?_⟩
      have := List.all_eq_true.1 h2 i (List.mem_range.2 hi)
      unfold okAt at this
      simp only [Bool.and_eq_true, decide_eq_true_eq] at this
      refine ⟨(l.getD i 0).toNat, by omega, by omega, ?_⟩
      rw [this.2]
      omega
    · cases h
theorem if_step {f g : Nat → Nat} (k z : Nat) (hz : z ≠ k) : (if z < k + 1 then f z else g z) = if z < k then f z else g z := by
  by_cases h : z < k
  · rw [if_pos (by omega), if_pos h]
  · rw [if_neg (by omega), if_neg h]
/-- what a call hands back: a list of words in memory of its own -/
def GivesW (L : List Nat) (w : World) (e : Ending) (w' : World) : Prop :=
  ∃ A c, e = .returned (.slice A L.length c) ∧ Reads w' w'.heap.size 1 A L.length (us L) ∧ Below w.heap.size w w'
set_option maxRecDepth 100000 in
set_option maxHeartbeats 2000000 in
theorem pRelation_any (l : List Int) (A : Option Addr) (n c : Nat) (w : World) (hR : Reads w w.heap.size 1 A n (ints l)) (hm : n ≤ maxLen) :
    Calls Tryd.prog 48 #[.slice A n c] w fun e w' => (partErr l = 0 ∧ GivesW (relL l) w e w') ∨ (partErr l ≠ 0 ∧ e = .returned (.slice none 0 0) ∧ w = w') := by
  have hl := hR.int_len
  have HC := Lib.hid (pCheck_any l A n c _ w hR hm)
  by_cases h0 : partErr l = 0
  · obtain ⟨h64, hp⟩ := part_of hl h0
    rw [h0] at HC
    have H0 := Lib.hid h0
    have HP := Lib.hid hp
    have HR := Lib.hid hR
    have HL : Hid (relL l = mapR (fun i => cls l (l.getD i 0) n) n) := Lib.hid (by unfold relL mapR; rw [hl])
    have hmk := makeU w n (by omega)
    have HH0 : Hid (HoldsU (w.alloc (.cells (us (List.replicate n 0)).toArray 28)) w.heap.size (mapR (fun x => cls l (x : Int) 0) n)) := Lib.hid (by
      have e : mapR (fun x => cls l (x : Int) 0) n = List.replicate n 0 := mapR_zero n
      rw [e]; exact HoldsU.made w _)
    have HB0 : Hid (Below w.heap.size w (w.alloc (.cells (us (List.replicate n 0)).toArray 28))) := Lib.hid ((Below.refl _ w).alloc (Nat.le_refl _) _)
    clear h0 hp hR hl
    go_enter Tryd.func48, Tryd.ntmps48
    go_wp2_with fail
    refine (HC.out).mono ?_
    rintro e w' ⟨rfl, rfl⟩
    go_wp2
    generalize w.alloc (.cells (us (List.replicate n 0)).toArray 28) = wx at *
    clear hmk
    go_loopw [16] (fun i wr => ∃ k : Nat, k ≤ n ∧ i = .int .i64 k ∧ Hid (HoldsU wr w.heap.size (mapR (fun x => cls l (x : Int) k) n) ∧ Below w.heap.size w wr)) (fun i _ => n - (intOf i).toNat)
    case atStart => exact ⟨0, Nat.zero_le _, rfl, Lib.hid ⟨HH0.out, HB0.out⟩⟩
    case round =>
      clear HH0 HB0
      obtain ⟨k, hk, rfl, HI⟩ := hrel
      by_cases hlt : k < n
      · obtain ⟨ad, hA, _, hc⟩ := (HR.out.below HI.out.2).int_at hlt
        subst hA
        obtain ⟨y, hy, hyk, _⟩ := HP.out k hlt
        rw [hy] at hc
        have hyn : y < n := by omega
        have hcz := HI.out.1.cell y (by rw [mapR_length]; exact hyn)
        rw [mapR_getD _ _ _ hyn] at hcz
        have hfz := HI.out.1.free y
        have hor := (or_pow (cls l (y : Int) k) k (cls_lt l _ k (by omega)) (by omega)).1
        have hpw := wrap_pow k (show k < 64 by omega)
        have HN : Hid (HoldsU (wr.setCell ⟨w.heap.size, y, none⟩ (.int .u64 ((cls l (y : Int) k ||| p2 k : Nat) : Int))) w.heap.size (mapR (fun x => cls l (x : Int) (k + 1)) n) ∧ Below w.heap.size w (wr.setCell ⟨w.heap.size, y, none⟩ (.int .u64 ((cls l (y : Int) k ||| p2 k : Nat) : Int)))) := Lib.hid ⟨by
          have := HI.out.1.put y (cls l (y : Int) k ||| p2 k)
          rw [mapR_set (g := fun x => cls l (x : Int) (k + 1)) (by show cls l (y : Int) (k + 1) = _; rw [cls_succ, if_pos hy]) (fun z _ hz => by show cls l (z : Int) (k + 1) = cls l (z : Int) k; rw [cls_succ, if_neg (by rw [hy]; omega)])] at this
          exact this, HI.out.2.setCell (p := ⟨w.heap.size, y, none⟩) (Nat.le_refl _) _⟩
        generalize cls l (y : Int) k = t at *
        clear HI hy
        go_wp2
        go_region
        all_goals (try simp only [hpw, hor])
        all_goals go_wp2
        all_goals go_roundw
        all_goals first
          | exact ⟨k + 1, by omega, by go_num, Lib.hid ⟨HN.out.1, HN.out.2.drew⟩⟩
          | (simp [intOf]; omega)
      · have hkn : n = k := by omega
        subst hkn
        have HI0 : Hid (HoldsU wr w.heap.size (mapR (fun i => if i < 0 then cls l (l.getD i 0) n else cls l (i : Int) n) n) ∧ Below w.heap.size w wr) := Lib.hid (by simpa using HI.out)
        clear HI
        go_wp2
        go_loopw [32] (fun i wr' => ∃ k : Nat, k ≤ n ∧ i = .int .i64 k ∧ Hid (HoldsU wr' w.heap.size (mapR (fun i => if i < k then cls l (l.getD i 0) n else cls l (i : Int) n) n) ∧ Below w.heap.size w wr')) (fun i _ => n - (intOf i).toNat)
        case atStart => exact ⟨0, Nat.zero_le _, rfl, HI0⟩
        case round =>
          clear HI0
          obtain ⟨k, hk, rfl, HI⟩ := hrel
          by_cases hlt : k < n
          · obtain ⟨ad, hA, _, hc⟩ := (HR.out.below HI.out.2).int_at hlt
            subst hA
            obtain ⟨y, hy, hyk, hyy⟩ := HP.out k hlt
            rw [hy] at hc
            have hyn : y < n := by omega
            have hcz := HI.out.1.cell y (by rw [mapR_length]; exact hyn)
            have ev : (if y < k then cls l (l.getD y 0) n else cls l (y : Int) n) = cls l (y : Int) n := by rw [hyy]; split <;> rfl
            rw [mapR_getD _ _ _ hyn, ev] at hcz
            have hfk := HI.out.1.free k
            have hck := HI.out.1.cell k (by rw [mapR_length]; exact hlt)
            generalize (mapR (fun i => if i < k then cls l (l.getD i 0) n else cls l (i : Int) n) n).getD k 0 = old at hck
            have HN : Hid (HoldsU (wr.setCell ⟨w.heap.size, k, none⟩ (.int .u64 (cls l (y : Int) n : Int))) w.heap.size (mapR (fun i => if i < k + 1 then cls l (l.getD i 0) n else cls l (i : Int) n) n) ∧ Below w.heap.size w (wr.setCell ⟨w.heap.size, k, none⟩ (.int .u64 (cls l (y : Int) n : Int)))) := Lib.hid ⟨by
              have := HI.out.1.put k (cls l (y : Int) n)
              rw [mapR_set (g := fun i => if i < k + 1 then cls l (l.getD i 0) n else cls l (i : Int) n) (by show (if k < k + 1 then _ else _) = _; rw [if_pos (by omega), hy]) (fun z _ hz => if_step (f := fun i => cls l (l.getD i 0) n) (g := fun i => cls l (i : Int) n) k z hz)] at this
              exact this, HI.out.2.setCell (p := ⟨w.heap.size, k, none⟩) (Nat.le_refl _) _⟩
            generalize cls l (y : Int) n = t at *
            clear HI hy hyy ev
            go_wp2
            go_roundw
            case rel => exact ⟨k + 1, by omega, by go_num, HN⟩
            case measure => simp [intOf]; omega
          · have hkn : n = k := by omega
            subst hkn
            have HE : Hid (relL l = mapR (fun i => if i < n then cls l (l.getD i 0) n else cls l (i : Int) n) n) := Lib.hid (by rw [HL.out]; exact mapR_congr (fun i hi => by rw [if_pos hi]))
            go_wp2
            go_ret
            refine Or.inl ⟨H0.out, _, n, ?_, by rw [HE.out]; exact HI.out.1.reads, HI.out.2⟩
            rw [HE.out, mapR_length]; rfl
  · have hne : (partErr l != 0) = true := by simp [h0]
    have H0 := Lib.hid h0
    clear h0 hR hl
    go_enter Tryd.func48, Tryd.ntmps48
    go_wp2_with fail
    refine (HC.out).mono ?_
    rintro e w' ⟨rfl, rfl⟩
    go_wp2
    go_ret
    exact Or.inr ⟨H0.out, rfl, rfl⟩
end Go.Proofs.YtfbgabcdeecpoaaDoor
/- Layer 3: the block of a point on both sides, the number of blocks and the blocks by the program, refinement. -/
namespace Go.Proofs.YtfbgabcdeecpoaaDoor
open Go.RowKit Go.Proofs.Ws
theorem relL_length (l : List Int) : (relL l).length = l.length := by simp [relL]
theorem relL_getD (l : List Int) (i : Nat) (h : i < l.length) : (relL l).getD i 0 = cls l (l.getD i 0) l.length := by
  unfold relL; rw [List.getD_eq_getElem?_getD, List.getElem?_map, List.getElem?_range h]; rfl
/-- the block of a point -/
def blkV (l : List Int) (i : Int) : Nat := if partErr l = 0 ∧ 0 ≤ i ∧ i < l.length then cls l (l.getD i.toNat 0) l.length else 0
set_option maxRecDepth 100000 in
theorem pBlock_any (l : List Int) (i : Int) (A : Option Addr) (n c : Nat) (w : World) (hR : Reads w w.heap.size 1 A n (ints l)) (hm : n ≤ maxLen) :
    Calls Tryd.prog 37 #[.slice A n c, .int .i64 i] w fun e w' => e = .returned (.int .u64 (blkV l i : Int)) ∧ Below w.heap.size w w' := by
  have hl := hR.int_len
  have HC := Lib.hid (pRelation_any l A n c w hR hm)
  clear hR
  unfold maxLen at hm
  by_cases h0 : partErr l = 0
  · have h64 := (part_of hl h0).1
    by_cases hi : 0 ≤ i ∧ i < n
    · obtain ⟨k, rfl⟩ := Int.eq_ofNat_of_zero_le hi.1
      have hk : k < n := by omega
      have HV : Hid (blkV l (k : Int) = cls l (l.getD k 0) l.length) := Lib.hid (by unfold blkV; rw [if_pos ⟨h0, by omega, by omega⟩]; rfl)
      have H0 := Lib.hid h0
      clear h0 hi
      go_enter Tryd.func37, Tryd.ntmps37
      go_wp2_with fail
      refine (HC.out).mono ?_
      rintro e w1 (⟨_, A1, c1, rfl, hR1, hb⟩ | ⟨hx, _⟩)
      · have hlen : (relL l).length = n := by rw [relL_length]; exact hl
        obtain ⟨ad, rfl, _, hc⟩ := hR1.word_k (show k < (relL l).length by omega)
        rw [relL_getD l k (by omega)] at hc
        rw [hlen]
        have HB := Lib.hid hb
        have hd1 : decide ((k : Int) < 0) = false := by simp
        have hd2 : decide ((n : Int) ≤ (k : Int)) = false := by simp; omega
        have hd3 : decide (n ≤ k) = false := by simp; omega
        generalize cls l (l.getD k 0) l.length = x at *
        clear hR1 hb
        go_wp2
        go_ret
        exact ⟨ret_u64 (by rw [HV.out]), HB.out⟩
      · exact absurd H0.out hx
    · have HV : Hid (blkV l i = 0) := Lib.hid (by unfold blkV; rw [if_neg (by rw [hl]; rintro ⟨_, h⟩; exact hi h)])
      have H0 := Lib.hid h0
      clear h0
      by_cases hneg : i < 0
      · have hd1 : decide (i < 0) = true := by simp; omega
        clear hi
        go_enter Tryd.func37, Tryd.ntmps37
        go_wp2_with fail
        refine (HC.out).mono ?_
        rintro e w1 (⟨_, A1, c1, rfl, hR1, hb⟩ | ⟨hx, _⟩)
        · have HB := Lib.hid hb
          clear hR1 hb
          go_wp2
          go_ret
          exact ⟨ret_u64 (by rw [HV.out]; rfl), HB.out⟩
        · exact absurd H0.out hx
      · have hge : (n : Int) ≤ i := by omega
        have hd1 : decide (i < 0) = false := by simp; omega
        have hd2 : decide ((n : Int) ≤ i) = true := by simp; omega
        clear hi
        go_enter Tryd.func37, Tryd.ntmps37
        go_wp2_with fail
        refine (HC.out).mono ?_
        rintro e w1 (⟨_, A1, c1, rfl, hR1, hb⟩ | ⟨hx, _⟩)
        · have HB := Lib.hid hb
          have hlen : (relL l).length = n := by rw [relL_length]; exact hl
          rw [hlen]
          clear hR1 hb
          go_wp2
          go_ret
          exact ⟨ret_u64 (by rw [HV.out]; rfl), HB.out⟩
        · exact absurd H0.out hx
  · have HV : Hid (blkV l i = 0) := Lib.hid (by unfold blkV; rw [if_neg (fun h => h0 h.1)])
    have H0 := Lib.hid h0
    clear h0
    go_enter Tryd.func37, Tryd.ntmps37
    go_wp2_with fail
    refine (HC.out).mono ?_
    rintro e w1 (⟨hx, _⟩ | ⟨_, rfl, rfl⟩)
    · exact absurd hx H0.out
    · by_cases hneg : i < 0
      · have hd1 : decide (i < 0) = true := by simp; omega
        go_wp2
        go_ret
        exact ⟨ret_u64 (by rw [HV.out]; rfl), Below.refl _ _⟩
      · have hd1 : decide (i < 0) = false := by simp; omega
        have hd2 : decide ((0 : Int) ≤ i) = true := by simp; omega
        go_wp2
        go_ret
        exact ⟨ret_u64 (by rw [HV.out]; rfl), Below.refl _ _⟩
/-- the sum of the bits so far -/
theorem cls_add (l : List Int) (x : Int) (k : Nat) : cls l x k < 2 ^ k ∧ cls l x k ||| p2 k = cls l x k + 2 ^ k := by
  have h : cls l x k < 2 ^ k := by
    apply Nat.lt_pow_two_of_testBit
    intro v hv
    cases hb : (cls l x k).testBit v
    · rfl
    · have := (cls_bit l x v k).1 hb; omega
  refine ⟨h, ?_⟩
  have := or_add k (2 ^ k) (cls l x k) (Nat.dvd_refl _) h
  unfold p2
  rw [this, Nat.add_comm]
end Go.Proofs.YtfbgabcdeecpoaaDoor
/- Layer 3: the blocks, their number, refinement, by the program. -/
namespace Go.Proofs.YtfbgabcdeecpoaaDoor
open Go.RowKit Go.Proofs.Ws
end Go.Proofs.YtfbgabcdeecpoaaDoor
/- Layer 3: the keys of the map in Split: pairs of numbers. -/
namespace Go.Proofs.YtfbgabcdeecpoaaDoor
open Go.RowKit Go.Proofs.Ws Go.Maps
theorem partKT : Tryd.prog.keyType 96 = true := by kernel_rfl
theorem partSize : Tryd.prog.types.size = (Tryd.prog.types.size - 1) + 1 := by kernel_rfl
theorem partLaid : laidOutB Tryd.prog = true := by kernel_rfl
theorem partLaw : Keyed Tryd.prog 96 :=
  Keyed.of_law (deep_law_laid partLaid (m := 9999) (by omega) (of_decide_eq_true (by kernel_rfl)) (by kernel_rfl) (by kernel_rfl))
theorem partCells : Tryd.prog.cellsOf 96 = 2 := by kernel_rfl
theorem intCells : Tryd.prog.cellsOf 3 = 1 := by kernel_rfl
def keyL (x y : Int) : Lit := .string (keyBytes [.int .i64 x, .int .i64 y])
theorem key_at {x y : Int} (wx : (Lit.int .i64 x).wf = true) (wy : (Lit.int .i64 y).wf = true) : keyOf Tryd.prog 96 (.agg #[.int .i64 x, .int .i64 y]) = some (keyL x y) := by
  unfold keyOf
  simp only [Tryd.underlying96]
  rw [if_pos (by rw [partKT]; simp [Value.formed, Tryd.underlying96]; kernel_rfl), partSize]
  unfold Program.keyLits
  simp only [Tryd.underlying96, Value.cells]
  rw [if_pos ⟨by rw [partCells]; rfl, by kernel_rfl⟩, List.mapM_cons, List.mapM_cons, List.mapM_nil]
  simp [intCells, Program.keyLits, Tryd.underlying3, wx, wy, keyL]
end Go.Proofs.YtfbgabcdeecpoaaDoor
/- Layer 3: Split, by the program: mathematics of first places and of the map. -/
namespace Go.Proofs.YtfbgabcdeecpoaaDoor
open Go.RowKit Go.Proofs.Ws Go.Maps
def sameAt (a b : List Int) (i j : Nat) : Bool := decide (a.getD j 0 = a.getD i 0) && decide (b.getD j 0 = b.getD i 0)
/-- the first place with the same two numbers -/
def firstAt (a b : List Int) (i : Nat) : Nat := ((List.range (i + 1)).find? (sameAt a b i)).getD i
theorem sameAt_iff (a b : List Int) (i j : Nat) : sameAt a b i j = true ↔ a.getD j 0 = a.getD i 0 ∧ b.getD j 0 = b.getD i 0 := by simp [sameAt]
theorem sameAt_self (a b : List Int) (i : Nat) : sameAt a b i i = true := by simp [sameAt]
theorem firstAt_spec (a b : List Int) (i : Nat) : sameAt a b i (firstAt a b i) = true ∧ firstAt a b i ≤ i ∧ ∀ j, j < firstAt a b i → sameAt a b i j = false := by
  unfold firstAt
  cases h : (List.range (i + 1)).find? (sameAt a b i) with
  | none =>
    have := List.find?_eq_none.1 h i (List.mem_range.2 (by omega))
    rw [sameAt_self] at this
    exact absurd rfl this
  | some k =>
    obtain ⟨h1, h2, h3⟩ := List.find?_range_eq_some.1 h
    refine ⟨h1, ?_, fun j hj => ?_⟩
    · have := List.mem_range.1 h2
      show k ≤ i
      omega
    · have := h3 j hj
      simpa using this
theorem firstAt_unique (a b : List Int) (i k : Nat) (h1 : sameAt a b i k = true) (h2 : ∀ j, j < k → sameAt a b i j = false) : firstAt a b i = k := by
  obtain ⟨s1, _, s3⟩ := firstAt_spec a b i
  rcases Nat.lt_trichotomy (firstAt a b i) k with h | h | h
  · rw [h2 _ h] at s1; cases s1
  · exact h
  · rw [s3 _ h] at h1; cases h1
theorem sameAt_trans {a b : List Int} {i k j : Nat} (h1 : sameAt a b i k = true) : sameAt a b i j = sameAt a b k j := by
  rw [sameAt_iff] at h1
  unfold sameAt
  rw [h1.1, h1.2]
def WFs (l : List Int) : Prop := ∀ i, (Lit.int .i64 (l.getD i 0)).wf = true
theorem keyL_inj {x y x' y' : Int} (wx : (Lit.int .i64 x).wf = true) (wy : (Lit.int .i64 y).wf = true) (wx' : (Lit.int .i64 x').wf = true) (wy' : (Lit.int .i64 y').wf = true) (h : keyL x y = keyL x' y') : x = x' ∧ y = y' := by
  have := partLaw.inj (key_at wx wy) (by rw [h]; exact key_at wx' wy')
  injection this with h1
  simp at h1
  exact h1
/-- what the map holds after k rounds -/
structure MapIs (a b : List Int) (k : Nat) (D : DataW Unit) : Prop where
  map : IsMap D
  there : ∀ i, Maps.has D (keyL (a.getD i 0) (b.getD i 0)) = true ↔ ∃ j, j < k ∧ sameAt a b i j = true
  at_ : ∀ i j, j < k → sameAt a b i j = true → D.atKey (keyL (a.getD i 0) (b.getD i 0)) (.lit (.int .i64 0)) = .lit (.int .i64 (firstAt a b i : Int))
theorem MapIs.start (a b : List Int) : MapIs a b 0 (.map []) where
  map := ⟨[], rfl⟩
  there := fun i => ⟨fun h => by simp [Maps.has] at h, fun ⟨j, hj, _⟩ => absurd hj (by omega)⟩
  at_ := fun i j hj => absurd hj (by omega)
section
variable {a b : List Int} {k : Nat} {D : DataW Unit}
theorem MapIs.old (h : MapIs a b k D) (ho : ∃ j, j < k ∧ sameAt a b k j = true) : MapIs a b (k + 1) D where
  map := h.map
  there := fun i => by
    rw [h.there i]
    constructor
    · rintro ⟨j, hj, hs⟩; exact ⟨j, by omega, hs⟩
    · rintro ⟨j, hj, hs⟩
      by_cases e : j = k
      · subst e
        obtain ⟨j', hj', hs'⟩ := ho
        exact ⟨j', hj', by rw [sameAt_trans hs]; exact hs'⟩
      · exact ⟨j, by omega, hs⟩
  at_ := fun i j hj hs => by
    by_cases e : j = k
    · subst e
      obtain ⟨j', hj', hs'⟩ := ho
      exact h.at_ i j' hj' (by rw [sameAt_trans hs]; exact hs')
    · exact h.at_ i j (by omega) hs
theorem MapIs.new (wa : WFs a) (wb : WFs b) (h : MapIs a b k D) (ho : ¬ ∃ j, j < k ∧ sameAt a b k j = true) : MapIs a b (k + 1) (D.put (keyL (a.getD k 0) (b.getD k 0)) (.lit (.int .i64 (k : Int)))) := by
  have hkey : WideAt.IsKeyLit (keyL (a.getD k 0) (b.getD k 0)) := partLaw.key (key_at (wa k) (wb k))
  have hne : ∀ i, sameAt a b i k = false → keyL (a.getD i 0) (b.getD i 0) ≠ keyL (a.getD k 0) (b.getD k 0) := fun i hs e => by
    have := keyL_inj (wa i) (wb i) (wa k) (wb k) e
    rw [(sameAt_iff a b i k).2 ⟨this.1.symm, this.2.symm⟩] at hs
    cases hs
  have heq : ∀ i, sameAt a b i k = true → keyL (a.getD i 0) (b.getD i 0) = keyL (a.getD k 0) (b.getD k 0) := fun i hs => by
    have := (sameAt_iff a b i k).1 hs
    rw [this.1, this.2]
  refine ⟨h.map.put _ _, fun i => ?_, fun i j hj hs => ?_⟩
  · cases hs : sameAt a b i k
    · rw [has_put_other (hne i hs), h.there i]
      constructor
      · rintro ⟨j, hj, hs'⟩; exact ⟨j, by omega, hs'⟩
      · rintro ⟨j, hj, hs'⟩
        by_cases e : j = k
        · subst e; rw [hs] at hs'; cases hs'
        · exact ⟨j, by omega, hs'⟩
    · rw [heq i hs, has_put_same h.map hkey]
      exact ⟨fun _ => ⟨k, by omega, hs⟩, fun _ => rfl⟩
  · cases hk : sameAt a b i k
    · rw [atKey_put_other (hne i hk)]
      have : j ≠ k := fun e => by subst e; rw [hk] at hs; cases hs
      exact h.at_ i j (by omega) hs
    · rw [heq i hk, atKey_put_same h.map hkey, firstAt_unique a b i k hk (fun j' hj' => by
        cases h' : sameAt a b i j'
        · rfl
        · exact absurd ⟨j', hj', by rw [← sameAt_trans hk]; exact h'⟩ ho)]
end
end Go.Proofs.YtfbgabcdeecpoaaDoor
/- Layer 3: Split, by the program. -/
namespace Go.Proofs.YtfbgabcdeecpoaaDoor
open Go.RowKit Go.Proofs.Ws Go.Maps
/-- block g holds just these numbers -/
def HoldsI (w : World) (g : Nat) (l : List Int) : Prop := w.heap[g]? = some (.cells (ints l).toArray 3 (0, 0))
theorem Tryd.infoI : (Tryd.prog.info? 3).map (fun i => (i.zero, i.size, i.bytes)) = some (some (.int .i64 0), 1, 8) := by kernel_rfl
theorem made_ints (n : Nat) : madeCells (Value.int IntKind.i64 0).cells n = (ints (List.replicate n 0)).toArray := by
  apply Array.ext
  · simp [madeCells, ints]
  · intro i h1 h2
    simp [madeCells, ints, Value.cells, Nat.mod_one]
theorem makeI (w : World) (n : Nat) (hn : n ≤ 1000000) : (Instr.makeSlice 22 (.int .i64 (n : Int)) (.int .i64 (n : Int))).run Tryd.prog w = .ok (.slice (some ⟨w.heap.size, 0, none⟩) n n) (w.alloc (.cells (ints (List.replicate n 0)).toArray 3)) := by
  obtain ⟨i0, hi, hz0, hz1, hz2⟩ := info_parts Tryd.infoI
  have h := run_make (P := Tryd.prog) w 22 3 i0 (.int .i64 0) Tryd.underlying22 hi hz0 .i64 .i64 n n (by omega) (Int.le_refl _) (by rw [hz2]; omega) (by omega)
  rw [h, hz1]
  simp only [Int.toNat_natCast, Nat.mul_one]
  rw [made_ints]
theorem HoldsI.cell {w : World} {g : Nat} {l : List Int} (h : HoldsI w g l) (k : Nat) (hk : k < l.length) : w.cell? ⟨g, k, none⟩ = some (.int .i64 (l.getD k 0)) := by
  rw [Lib.cell_of_heap h, List.getElem?_toArray]
  unfold ints
  rw [List.getElem?_map, List.getElem?_eq_getElem hk, List.getD_eq_getElem?_getD, List.getElem?_eq_getElem hk]
  rfl
theorem HoldsI.free {w : World} {g : Nat} {l : List Int} (h : HoldsI w g l) (k : Nat) : w.frozen? ⟨g, k, none⟩ = false := Lib.frozen_of_heap h k
theorem HoldsI.put {w : World} {g : Nat} {l : List Int} (h : HoldsI w g l) (k : Nat) (x : Int) : HoldsI (w.setCell ⟨g, k, none⟩ (.int .i64 x)) g (l.set k x) := by
  unfold HoldsI at h ⊢
  have e : (ints (l.set k x)).toArray = (ints l).toArray.setIfInBounds k (.int .i64 x) := by
    unfold ints
    rw [List.map_set]
    simp
  rw [e]
  simp [World.setCell, Array.getElem?_modify, h]
theorem HoldsI.made (w : World) (l : List Int) : HoldsI (w.alloc (.cells (ints l).toArray 3)) w.heap.size l := heap_alloc_new w _
theorem HoldsI.lt {w : World} {g : Nat} {l : List Int} (h : HoldsI w g l) : g < w.heap.size := (Array.getElem?_eq_some_iff.1 h).1
theorem HoldsI.alloc {w : World} {g : Nat} {l : List Int} (h : HoldsI w g l) (o : Obj) : HoldsI (w.alloc o) g l := (Below.heap_alloc w o g h.lt).trans h
theorem HoldsI.grown {w w' : World} {g : Nat} {l : List Int} {row : Option Nat} (h : HoldsI w g l) (hg : w.grownBy w' row) (hne : some g ≠ row) : HoldsI w' g l := (hg.block g h.lt hne).trans h
theorem HoldsI.reads {w : World} {g : Nat} {l : List Int} (h : HoldsI w g l) : Reads w w.heap.size 1 (some ⟨g, 0, none⟩) l.length (ints l) := by
  refine ⟨by rw [ints_length]; omega, fun _ => ⟨_, rfl, h.lt, fun j u hu => ?_⟩⟩
  rw [addr0]
  unfold ints at hu
  rw [List.getElem?_map] at hu
  obtain ⟨k, hk, rfl⟩ := Option.map_eq_some_iff.1 hu
  have hj : j < l.length := by
    by_cases h' : j < l.length
    · exact h'
    · rw [List.getElem?_eq_none (by omega)] at hk; cases hk
  rw [h.cell j hj, List.getD_eq_getElem?_getD, hk]; rfl
/-- the partition by two lists of numbers -/
def canonL (a b : List Int) : List Int := (List.range a.length).map (fun i => (firstAt a b i : Int))
def qL (a b : List Int) (n k : Nat) : List Int := (List.range n).map (fun i => if i < k then (firstAt a b i : Int) else 0)
theorem qL_set (a b : List Int) (n k : Nat) (_h : k < n) : (qL a b n k).set k (firstAt a b k : Int) = qL a b n (k + 1) := by
  apply List.ext_getElem
  · simp [qL]
  · intro i h1 h2
    rw [List.getElem_set]
    simp only [qL, List.getElem_map, List.getElem_range]
    split
    · rename_i e; subst e; rw [if_pos (by omega)]
    · rename_i e
      by_cases h : i < k
      · rw [if_pos h, if_pos (by omega)]
      · rw [if_neg h, if_neg (by omega)]
theorem zeroI (w : World) : (zeroValue 3).run Tryd.prog w = .ok (.int .i64 0) w := by kernel_rfl
theorem ownsMap_set {w : World} {P : Program} {t : TypeId} {R : Value → Option (DataW Unit × List MemPlace)} {B n : Nat} {D : DataW Unit} (h : w.ownsMap P t R B n D) (g k : Nat) (u : Value) (hne : B ≠ g) : (w.setCell ⟨g, k, none⟩ u).ownsMap P t R B n D := by
  obtain ⟨es, clock, hb, rest⟩ := h
  exact ⟨es, clock, (Below.heap_setCell w ⟨g, k, none⟩ u B hne).trans hb, rest⟩
theorem ownsMap_alloc {w : World} {P : Program} {t : TypeId} {R : Value → Option (DataW Unit × List MemPlace)} {B n : Nat} {D : DataW Unit} (h : w.ownsMap P t R B n D) (o : Obj) : (w.alloc o).ownsMap P t R B n D :=
  h.kept (World.grownBy_alloc w o none) (by simp)
end Go.Proofs.YtfbgabcdeecpoaaDoor
/- Layer 3: copies and equality of lists of numbers. -/
namespace Go.Proofs.YtfbgabcdeecpoaaDoor
open Go.RowKit Go.Proofs.Ws
/-- block g holds these words, and maybe more behind them -/
def HoldsJ (w : World) (g : Nat) (l : List Int) : Prop := ∃ pad : List Value, w.heap[g]? = some (.cells (ints l ++ pad).toArray 3 (0, 0))
theorem HoldsI.pad {w : World} {g : Nat} {l : List Int} (h : HoldsI w g l) : HoldsJ w g l := ⟨[], by rw [List.append_nil]; exact h⟩
theorem HoldsJ.cell {w : World} {g : Nat} {l : List Int} (h : HoldsJ w g l) (k : Nat) (hk : k < l.length) : w.cell? ⟨g, k, none⟩ = some (.int .i64 (l.getD k 0)) := by
  obtain ⟨pad, h⟩ := h
  rw [Lib.cell_of_heap h, List.getElem?_toArray, List.getElem?_append_left (by rw [ints_length]; exact hk)]
  unfold ints
  rw [List.getElem?_map, List.getElem?_eq_getElem hk, List.getD_eq_getElem?_getD, List.getElem?_eq_getElem hk]
  rfl
theorem HoldsJ.free {w : World} {g : Nat} {l : List Int} (h : HoldsJ w g l) (k : Nat) : w.frozen? ⟨g, k, none⟩ = false := by
  obtain ⟨pad, h⟩ := h
  exact Lib.frozen_of_heap h k
theorem HoldsJ.put {w : World} {g : Nat} {l : List Int} (h : HoldsJ w g l) (k : Nat) (x : Int) : HoldsJ (w.setCell ⟨g, k, none⟩ (.int .i64 x)) g (l.set k x) := by
  obtain ⟨pad, h⟩ := h
  by_cases hk : k < l.length
  · refine ⟨pad, ?_⟩
    have e : (ints (l.set k x) ++ pad).toArray = (ints l ++ pad).toArray.setIfInBounds k (.int .i64 x) := by
      unfold ints
      rw [List.map_set]
      simp [hk]
    rw [e]
    simp [World.setCell, Array.getElem?_modify, h]
  · refine ⟨pad.set (k - l.length) (.int .i64 x), ?_⟩
    have e : (ints (l.set k x) ++ pad.set (k - l.length) (.int .i64 x)).toArray = (ints l ++ pad).toArray.setIfInBounds k (.int .i64 x) := by
      rw [List.set_eq_of_length_le (by omega)]
      simp [List.set_append, ints_length, hk]
    rw [e]
    simp [World.setCell, Array.getElem?_modify, h]
theorem HoldsJ.lt {w : World} {g : Nat} {l : List Int} (h : HoldsJ w g l) : g < w.heap.size := by
  obtain ⟨pad, h⟩ := h
  exact (Array.getElem?_eq_some_iff.1 h).1
theorem HoldsJ.below {w w' : World} {B g : Nat} {l : List Int} (h : HoldsJ w g l) (hb : Below B w w') (hg : g < B) : HoldsJ w' g l := by
  obtain ⟨pad, h⟩ := h
  exact ⟨pad, (hb.block g hg).trans h⟩
theorem HoldsJ.reads {w : World} {g : Nat} {l : List Int} (h : HoldsJ w g l) : Reads w w.heap.size 1 (some ⟨g, 0, none⟩) l.length (ints l) := by
  refine ⟨by rw [ints_length]; omega, fun _ => ⟨_, rfl, h.lt, fun j u hu => ?_⟩⟩
  rw [addr0]
  unfold ints at hu
  rw [List.getElem?_map] at hu
  obtain ⟨k, hk, rfl⟩ := Option.map_eq_some_iff.1 hu
  have hj : j < l.length := by
    by_cases h' : j < l.length
    · exact h'
    · rw [List.getElem?_eq_none (by omega)] at hk; cases hk
  rw [h.cell j hj, List.getD_eq_getElem?_getD, hk]; rfl
theorem HoldsJ.of_own {w : World} {base : Nat} {v : Value} {l : List Int} (h : w.ownsRow base 3 1 v l.length (ints l)) (hv : v ≠ .slice none 0 0) : ∃ g c, v = .slice (some ⟨g, 0, none⟩) l.length c ∧ base ≤ g ∧ HoldsJ w g l ∧ l.length ≤ c := by
  rcases h.2 with ⟨e, _⟩ | ⟨g, cap, cur, e, hb, hg, hn, _, hs, ht⟩
  · exact absurd e hv
  · refine ⟨g, cap, e, hb, ⟨cur.toList.drop l.length, ?_⟩, hn⟩
    rw [hg]
    have : cur = (ints l ++ cur.toList.drop l.length).toArray := by
      rw [← ht, Nat.mul_one, List.take_append_drop]
    rw [← this]
set_option maxHeartbeats 2000000 in
set_option maxRecDepth 100000 in
theorem cloneI_any (l : List Int) (A : Option Addr) (n c : Nat) (w : World) (hR : Reads w w.heap.size 1 A n (ints l)) (hn : n ≤ 64) :
    Calls Tryd.prog 71 #[.slice A n c] w fun e w' => ∃ A' c', e = .returned (.slice A' n c') ∧ (0 < n → ∃ g, A' = some ⟨g, 0, none⟩ ∧ w.heap.size ≤ g ∧ HoldsJ w' g l) ∧ Below w.heap.size w w' := by
  have e1 := hR.int_len
  have q22 : ∀ (w : World) (a : Option Addr) (n c n' c' : Nat), (binOp .eql 22 (.slice a n c) (.slice none n' c')).run Tryd.prog w = .ok (.bool a.isNone) w := fun w a n c n' c' => Lib.run_eql_slice_nil w _ _ a n c n' c' Tryd.underlying22
  cases A with
  | none =>
    have h0 : n = 0 := by
      apply Classical.byContradiction
      intro h
      obtain ⟨ad, u, hA, _⟩ := hR.at_ (show 0 < n by omega)
      cases hA
    subst h0
    go_enter Tryd.func71, Tryd.ntmps71
    go_wp2
    go_ret
    exact ⟨none, 0, rfl, fun h => absurd h (by omega), Below.refl _ _⟩
  | some a =>
    obtain ⟨i0, hi, hz0, hz1, hz2⟩ := info_parts Tryd.infoI
    have HR : Hid (Reads w w.heap.size 1 (some a) n (ints l)) := Lib.hid hR
    clear hR
    go_enter Tryd.func71, Tryd.ntmps71
    go_wp2_with (at_builtin; refine wpList_append_own _ rfl _ _ 22 rfl w.heap.size 3 i0 (.int .i64 0) 1 8 Tryd.underlying22 hi hz0 hz1 hz2 rfl (by decide) _ _ _ rfl (World.ownsRow_made w #[] 0 (Nat.le_refl _) (Nat.zero_le _) (by simp)) a n c (ints l) rfl ?qc1 ?qc2 ?qc3 ?qc4 ?qc5 ?qc6 ?_)
    case qc1 => rw [ints_length]; omega
    case qc2 =>
      intro j u hj
      obtain ⟨_, h⟩ := HR.out
      have hjn : j < n := by
        unfold ints at hj
        rw [List.getElem?_map] at hj
        obtain ⟨k, hk, _⟩ := Option.map_eq_some_iff.1 hj
        have := (List.getElem?_eq_some_iff.1 hk).1
        omega
      obtain ⟨ad, hA, hb, hc⟩ := h (by omega)
      cases hA
      exact Lib.cell?_alloc_some _ (hc j u hj)
    case qc3 =>
      intro u hu
      unfold ints at hu
      obtain ⟨k, _, rfl⟩ := List.mem_map.1 hu
      rfl
    case qc4 => unfold maxLen; omega
    case qc5 => omega
    case qc6 => simp
    intro v' w1 hown hgrow hnil
    have hb : Below w.heap.size w w1 := ((Below.refl _ w).alloc (Nat.le_refl _) _).grown hgrow (by simp) (by intro k hk; simp [Value.ownBlock] at hk; omega)
    have hown' : w1.ownsRow w.heap.size 3 1 v' l.length (ints l) := by
      have : 0 + n = l.length := by omega
      rw [← this]; simpa using hown
    obtain ⟨g, c', rfl, hg, hH, _⟩ := HoldsJ.of_own hown' hnil
    have HB := Lib.hid hb
    have HH := Lib.hid hH
    clear hown hgrow hnil hb hown' hH
    go_wp2
    go_ret
    exact ⟨_, c', by rw [e1]; rfl, fun _ => ⟨g, rfl, hg, HH.out⟩, HB.out⟩
theorem drop_getD (l : List Int) (k : Nat) (h : k < l.length) : l.drop k = l.getD k 0 :: l.drop (k + 1) := by
  rw [List.getD_eq_getElem?_getD, List.getElem?_eq_getElem h, List.drop_eq_getElem_cons h]; rfl
set_option maxRecDepth 100000 in
theorem equalI_any (l m : List Int) (A A2 : Option Addr) (n n2 c c2 B : Nat) (w : World) (hR : Reads w B 1 A n (ints l)) (hR2 : Reads w B 1 A2 n2 (ints m)) (hn : n ≤ maxLen) (hn2 : n2 ≤ maxLen) :
    Calls Tryd.prog 65 #[.slice A n c, .slice A2 n2 c2] w fun e w' => e = .returned (.bool (decide (l = m))) ∧ ∃ q, w' = w.drewN q := by
  unfold maxLen at hn hn2
  have e1 := hR.int_len
  have e2 := hR2.int_len
  by_cases h : n = n2
  · subst h
    have HL := Lib.hid e1
    have HL2 := Lib.hid e2
    clear e1 e2
    go_enter Tryd.func65, Tryd.ntmps65
    go_wp2
    go_loopw [13] (fun i wr => ∃ k q : Nat, k ≤ n ∧ i = .int .i64 k ∧ Hid (decide (l = m) = decide (l.drop k = m.drop k)) ∧ wr = w.drewN q) (fun i _ => n - (intOf i).toNat)
    case atStart => exact ⟨0, 0, Nat.zero_le _, rfl, Lib.hid rfl, rfl⟩
    case round =>
      obtain ⟨k, q, hk, rfl, HI, rfl⟩ := hrel
      by_cases hlt : k < n
      · obtain ⟨ad, rfl, hb, hc⟩ := hR.int_at hlt
        obtain ⟨ad2, rfl, hb2, hc2⟩ := hR2.int_at hlt
        have HD := Lib.hid (drop_getD l k (by have := HL.out; omega))
        have HD2 := Lib.hid (drop_getD m k (by have := HL2.out; omega))
        generalize l.getD k 0 = x at *
        generalize m.getD k 0 = y at *
        by_cases hxy : x = y
        · subst hxy
          have HI2 : Hid (decide (l = m) = decide (l.drop (k + 1) = m.drop (k + 1))) := Lib.hid (by rw [HI.out, HD.out, HD2.out]; exact decide_eq_decide.2 (by simp))
          have hb1 : (x != x) = false := by simp
          go_wp2
          go_quiet (fail)
          go_wp2
          go_roundw
          case rel => exact ⟨k + 1, q + nq, by omega, by go_num, HI2, by first | rfl | rw [World.drewN_drewN]⟩
          case measure => simp [intOf]; omega
        · have HE : Hid (decide (l = m) = false) := Lib.hid (by rw [HI.out, HD.out, HD2.out]; simp [hxy])
          have hne : (x != y) = true := by rw [bne_iff_ne]; exact hxy
          clear hxy
          go_wp2
          go_quiet (fail)
          go_wp2
          go_ret
          exact ⟨ret_bool HE.out.symm, ⟨q + nq, by first | rfl | rw [World.drewN_drewN]⟩⟩
      · have HE : Hid (decide (l = m) = true) := Lib.hid (by rw [HI.out, List.drop_eq_nil_of_le (by have := HL.out; omega), List.drop_eq_nil_of_le (by have := HL2.out; omega)]; rfl)
        go_wp2
        go_ret
        exact ⟨ret_bool HE.out.symm, ⟨q, rfl⟩⟩
  · have hne : ((n : Int) != (n2 : Int)) = true := by simp; omega
    have HE : Hid (decide (l = m) = false) := Lib.hid (by simp; intro hh; subst hh; omega)
    clear e1 e2
    go_enter Tryd.func65, Tryd.ntmps65
    go_wp2
    go_ret
    exact ⟨ret_bool HE.out.symm, ⟨0, rfl⟩⟩
end Go.Proofs.YtfbgabcdeecpoaaDoor
/- Mathematics of Join: roots of a forest; the finest partition that both refine. -/
namespace Go.Proofs.YtfbgabcdeecpoaaDoor
open Go.RowKit Go.Proofs.Ws
/-- the root of a point: follow p while it goes down -/
def root (p : Nat → Nat) (i : Nat) : Nat := if _h : p i < i then root p (p i) else i
termination_by i
theorem root_down {p : Nat → Nat} {i : Nat} (h : p i < i) : root p i = root p (p i) := by rw [root, dif_pos h]
theorem root_top {p : Nat → Nat} {i : Nat} (h : ¬ p i < i) : root p i = i := by rw [root, dif_neg h]
theorem root_le {p : Nat → Nat} (_hp : ∀ i, p i ≤ i) : ∀ i, root p i ≤ i := fun i => by
  induction i using Nat.strongRecOn with
  | ind i ih =>
    by_cases h : p i < i
    · rw [root_down h]
      have := ih _ h
      omega
    · rw [root_top h]; exact Nat.le_refl _
theorem root_of_fix {p : Nat → Nat} (_hp : ∀ i, p i ≤ i) {i : Nat} (h : p i = i) : root p i = i := root_top (by omega)
section
variable {p : Nat → Nat} (hp : ∀ i, p i ≤ i)
include hp
theorem root_fix : ∀ i, p (root p i) = root p i := fun i => by
  induction i using Nat.strongRecOn with
  | ind i ih =>
    by_cases h : p i < i
    · rw [root_down h]; exact ih _ h
    · rw [root_top h]; have := hp i; omega
theorem root_root (i : Nat) : root p (root p i) = root p i := root_of_fix hp (root_fix hp i)
theorem root_step (i : Nat) : root p (p i) = root p i := by
  by_cases h : p i < i
  · rw [root_down h]
  · have : p i = i := by have := hp i; omega
    rw [this]
/-- two roots are joined -/
theorem root_join {m M : Nat} (hm : p m = m) (hM : p M = M) (hmM : m ≤ M) :
    ∀ i, root (fun i => if i = M then m else p i) i = if root p i = M then m else root p i := by
  have hp' : ∀ i, (fun i => if i = M then m else p i) i ≤ i := fun i => by
    show (if i = M then m else p i) ≤ i
    split
    · omega
    · exact hp i
  intro i
  induction i using Nat.strongRecOn with
  | ind i ih =>
    by_cases e : i = M
    · subst e
      rw [root_of_fix hp hM, if_pos rfl]
      by_cases h : m < i
      · rw [root_down (p := fun j => if j = i then m else p j) (by show (if i = i then m else p i) < i; rw [if_pos rfl]; exact h)]
        show root _ (if i = i then m else p i) = m
        rw [if_pos rfl]
        have := ih m h
        rw [root_of_fix hp hm] at this
        rw [this]
        rw [if_neg (by omega)]
      · have : m = i := by omega
        subst this
        exact root_top (by show ¬ (if m = m then m else p m) < m; rw [if_pos rfl]; omega)
    · by_cases h : p i < i
      · rw [root_down (p := fun j => if j = M then m else p j) (by show (if i = M then m else p i) < i; rw [if_neg e]; exact h), root_down h]
        show root _ (if i = M then m else p i) = _
        rw [if_neg e]
        exact ih _ h
      · have hi : p i = i := by have := hp i; omega
        rw [root_of_fix hp hi, if_neg e]
        exact root_top (by show ¬ (if i = M then m else p i) < i; rw [if_neg e]; omega)
/-- a point that leads to its root at once: the roots are the same -/
theorem root_short (k : Nat) : ∀ i, root (fun i => if i = k then root p k else p i) i = root p i := by
  have hk := root_le hp k
  intro i
  induction i using Nat.strongRecOn with
  | ind i ih =>
    by_cases e : i = k
    · subst e
      by_cases h : root p i < i
      · rw [root_down (p := fun j => if j = i then root p i else p j) (by show (if i = i then root p i else p i) < i; rw [if_pos rfl]; exact h)]
        show root _ (if i = i then root p i else p i) = _
        rw [if_pos rfl, ih _ h, root_root hp]
      · have : root p i = i := by omega
        rw [this]
        exact root_top (by show ¬ (if i = i then i else p i) < i; rw [if_pos rfl]; omega)
    · by_cases h : p i < i
      · rw [root_down (p := fun j => if j = k then root p k else p j) (by show (if i = k then root p k else p i) < i; rw [if_neg e]; exact h), root_down h]
        show root _ (if i = k then root p k else p i) = _
        rw [if_neg e]
        exact ih _ h
      · have hi : p i = i := by have := hp i; omega
        rw [root_of_fix hp hi]
        exact root_top (by show ¬ (if i = k then root p k else p i) < i; rw [if_neg e]; omega)
end
/-- the forest of a list of numbers -/
def fo (l : List Int) (i : Nat) : Nat := if i < l.length then (l.getD i 0).toNat else i
/-- each number points down -/
def Forest (l : List Int) : Prop := ∀ i, i < l.length → ∃ y : Nat, l.getD i 0 = (y : Int) ∧ y ≤ i
theorem Forest.le {l : List Int} (h : Forest l) (i : Nat) : fo l i ≤ i := by
  unfold fo
  split
  · rename_i hi
    obtain ⟨y, hy, hle⟩ := h i hi
    rw [hy]; simpa using hle
  · exact Nat.le_refl _
theorem Forest.at_ {l : List Int} (h : Forest l) {i : Nat} (hi : i < l.length) : l.getD i 0 = (fo l i : Int) := by
  obtain ⟨y, hy, _⟩ := h i hi
  unfold fo
  rw [if_pos hi, hy]; simp
theorem fo_set (l : List Int) (k : Nat) (v : Nat) (hk : k < l.length) : fo (l.set k (v : Int)) = fun i => if i = k then v else fo l i := by
  funext i
  unfold fo
  rw [List.length_set]
  by_cases e : i = k
  · subst e
    rw [if_pos hk, if_pos rfl, List.getD_eq_getElem?_getD, List.getElem?_set_self hk]; simp
  · rw [if_neg e, List.getD_eq_getElem?_getD, List.getElem?_set_ne (fun h => e h.symm), ← List.getD_eq_getElem?_getD]
theorem Forest.set {l : List Int} (h : Forest l) {k v : Nat} (hv : v ≤ k) : Forest (l.set k (v : Int)) := fun i hi => by
  rw [List.length_set] at hi
  by_cases e : i = k
  · subst e
    exact ⟨v, by rw [List.getD_eq_getElem?_getD, List.getElem?_set_self hi]; rfl, hv⟩
  · obtain ⟨y, hy, hle⟩ := h i hi
    exact ⟨y, by rw [List.getD_eq_getElem?_getD, List.getElem?_set_ne (fun h => e h.symm), ← List.getD_eq_getElem?_getD]; exact hy, hle⟩
theorem part_forest {l : List Int} (h : partErr l = 0) : Forest l := fun i hi => by
  obtain ⟨_, hp⟩ := part_of rfl h
  obtain ⟨y, h1, h2, _⟩ := hp i hi
  exact ⟨y, h1, h2⟩
theorem part_root {l : List Int} (h : partErr l = 0) (i : Nat) : root (fo l) i = fo l i := by
  have hf := part_forest h
  have hfix : fo l (fo l i) = fo l i := by
    by_cases hi : i < l.length
    · obtain ⟨_, hp⟩ := part_of rfl h
      obtain ⟨y, h1, h2, h3⟩ := hp i hi
      have e : fo l i = y := by unfold fo; rw [if_pos hi, h1]; simp
      rw [e]
      unfold fo
      rw [if_pos (by omega), h3]; simp
    · have e : fo l i = i := by unfold fo; rw [if_neg hi]
      rw [e, e]
  rw [← root_step hf.le, root_of_fix hf.le hfix]
/-- Join after k rounds: roots are the finest partition that a and the first k pairs of b give -/
structure JInv (a b : List Int) (n k : Nat) (l : List Int) : Prop where
  len : l.length = n
  forest : Forest l
  ea : ∀ i, i < n → root (fo l) (fo a i) = root (fo l) i
  eb : ∀ i, i < k → root (fo l) (fo b i) = root (fo l) i
  least : ∀ f : Nat → Nat, (∀ i, f (fo a i) = f i) → (∀ i, f (fo b i) = f i) → ∀ i, f (fo l i) = f i
theorem root_const {p : Nat → Nat} (f : Nat → Nat) (h : ∀ i, f (p i) = f i) : ∀ i, f (root p i) = f i := fun i => by
  induction i using Nat.strongRecOn with
  | ind i ih =>
    by_cases hi : p i < i
    · rw [root_down hi, ih _ hi, h]
    · rw [root_top hi]
theorem JInv.start {a : List Int} (b : List Int) {n : Nat} (hl : a.length = n) (ha : partErr a = 0) : JInv a b n 0 a where
  len := hl
  forest := part_forest ha
  ea := fun i _ => root_step (part_forest ha).le i
  eb := fun i hi => absurd hi (by omega)
  least := fun _ h _ => h
theorem fo_lt {l : List Int} (h : Forest l) {n i : Nat} (hi : i < n) : fo l i < n := Nat.lt_of_le_of_lt (h.le i) hi
/-- one pair of b -/
theorem JInv.join {a b : List Int} {n k : Nat} {l : List Int} (h : JInv a b n k l) (_hb : Forest b) (hk : k < n) (m M : Nat)
    (hmM : (m = root (fo l) k ∧ M = root (fo l) (fo b k) ∧ m ≤ M) ∨ (m = root (fo l) (fo b k) ∧ M = root (fo l) k ∧ m ≤ M)) : JInv a b n (k + 1) (l.set M (m : Int)) := by
  have hle := h.forest.le
  have hM : M < n := by
    rcases hmM with ⟨_, h2, _⟩ | ⟨_, h2, _⟩
    · rw [h2]; exact Nat.lt_of_le_of_lt (root_le hle _) (fo_lt _hb hk)
    · rw [h2]; exact Nat.lt_of_le_of_lt (root_le hle _) hk
  have hmf : fo l m = m := by rcases hmM with ⟨h1, _⟩ | ⟨h1, _⟩ <;> (rw [h1]; exact root_fix hle _)
  have hMf : fo l M = M := by rcases hmM with ⟨_, h1, _⟩ | ⟨_, h1, _⟩ <;> (rw [h1]; exact root_fix hle _)
  have hmle : m ≤ M := by rcases hmM with ⟨_, _, h1⟩ | ⟨_, _, h1⟩ <;> exact h1
  have e := fo_set l M m (by rw [h.len]; exact hM)
  have hr := root_join hle hmf hMf hmle
  have same : ∀ i j, root (fo l) i = root (fo l) j → root (fo (l.set M (m : Int))) i = root (fo (l.set M (m : Int))) j := fun i j hij => by
    rw [e, hr, hr, hij]
  refine ⟨by rw [List.length_set]; exact h.len, h.forest.set hmle, fun i hi => same _ _ (h.ea i hi), fun i hi => ?_, fun f hfa hfb i => ?_⟩
  · by_cases ei : i = k
    · subst ei
      rw [e, hr, hr]
      rcases hmM with ⟨h1, h2, _⟩ | ⟨h1, h2, _⟩
      · rw [← h1, ← h2, if_pos rfl]; split <;> rfl
      · rw [← h1, ← h2, if_pos rfl]; split <;> rfl
    · exact same _ _ (h.eb i (by omega))
  · rw [e]
    show f (if i = M then m else fo l i) = f i
    split
    · rename_i ei
      subst ei
      have hc := root_const f (h.least f hfa hfb)
      rcases hmM with ⟨h1, h2, _⟩ | ⟨h1, h2, _⟩
      · rw [h1, h2, hc, hc, hfb]
      · rw [h1, h2, hc, hc, hfb]
    · exact h.least f hfa hfb i
/-- what Join's answer is -/
def rootL (l : List Int) (n : Nat) : List Int := (List.range n).map (fun i => (root (fo l) i : Int))
def halfL (l : List Int) (n k : Nat) : List Int := (List.range n).map (fun i => if i < k then (root (fo l) i : Int) else l.getD i 0)
theorem halfL_len (l : List Int) (n k : Nat) : (halfL l n k).length = n := by simp [halfL]
theorem halfL_getD (l : List Int) (n k i : Nat) (h : i < n) : (halfL l n k).getD i 0 = if i < k then (root (fo l) i : Int) else l.getD i 0 := by
  unfold halfL; rw [List.getD_eq_getElem?_getD, List.getElem?_map, List.getElem?_range h]; rfl
theorem halfL_zero {l : List Int} {n : Nat} (h : l.length = n) : halfL l n 0 = l := by
  apply List.ext_getElem
  · rw [halfL_len, h]
  · intro i h1 h2
    simp [halfL, List.getElem?_eq_getElem h2]
theorem halfL_forest {l : List Int} (hf : Forest l) {n : Nat} (h : l.length = n) (k : Nat) : Forest (halfL l n k) := fun i hi => by
  rw [halfL_len] at hi
  rw [halfL_getD _ _ _ _ hi]
  split
  · exact ⟨_, rfl, root_le hf.le i⟩
  · exact hf i (by omega)
theorem halfL_set (l : List Int) (n k : Nat) : (halfL l n k).set k (root (fo l) k : Int) = halfL l n (k + 1) := by
  apply List.ext_getElem
  · simp [halfL]
  · intro i h1 h2
    rw [List.getElem_set]
    simp only [halfL, List.getElem_map, List.getElem_range]
    split
    · rename_i e; subst e; rw [if_pos (by omega)]
    · rename_i e
      by_cases h : i < k
      · rw [if_pos h, if_pos (by omega)]
      · rw [if_neg h, if_neg (by omega)]
theorem halfL_root {l : List Int} (hf : Forest l) {n : Nat} (h : l.length = n) : ∀ k, k ≤ n → ∀ i, root (fo (halfL l n k)) i = root (fo l) i
  | 0, _, i => by rw [halfL_zero h]
  | k + 1, hk, i => by
    have ih := halfL_root hf h k (by omega)
    rw [← halfL_set, ← ih k, fo_set _ _ _ (by rw [halfL_len]; omega), root_short (halfL_forest hf h k).le, ih]
theorem halfL_full (l : List Int) (n : Nat) : halfL l n n = rootL l n := by
  unfold halfL rootL
  exact List.map_congr_left (fun i hi => by rw [if_pos (List.mem_range.1 hi)])
end Go.Proofs.YtfbgabcdeecpoaaDoor
/- Layer 3: Join, Meet and refinement of partitions, by the program. -/
namespace Go.Proofs.YtfbgabcdeecpoaaDoor
open Go.RowKit Go.Proofs.Ws
theorem JInv.root_lt {a b : List Int} {n k : Nat} {l : List Int} (h : JInv a b n k l) {i : Nat} (hi : i < n) : root (fo l) i < n := Nat.lt_of_le_of_lt (root_le h.forest.le i) hi
set_option maxRecDepth 100000 in
theorem lowest_any (l : List Int) (B g n c i : Nat) (w : World) (hP : w.cell? ⟨B, 0, none⟩ = some (.slice (some ⟨g, 0, none⟩) n c)) (hH : HoldsJ w g l) (hl : l.length = n) (hf : Forest l) (hi : i < n) (_hm : n ≤ 64) :
    Calls Tryd.prog 72 #[.int .i64 (i : Int), .pointer (some ⟨B, 0, none⟩)] w fun e w' => e = .returned (.int .i64 (root (fo l) i : Int)) ∧ w = w' := by
  have HH := Lib.hid hH
  have HF := Lib.hid hf
  have HL := Lib.hid hl
  clear hH hf hl
  go_enter Tryd.func72, Tryd.ntmps72
  go_wp2
  go_loopw [0] (fun v wr => ∃ j : Nat, j < n ∧ v = .int .i64 (j : Int) ∧ Hid (root (fo l) j = root (fo l) i) ∧ wr = w) (fun v _ => (intOf v).toNat)
  case atStart => exact ⟨i, hi, rfl, Lib.hid rfl, rfl⟩
  case round =>
    obtain ⟨j, hj, rfl, HI, rfl⟩ := hrel
    have hc := HH.out.cell j (by have := HL.out; omega)
    rw [HF.out.at_ (show j < l.length by have := HL.out; omega)] at hc
    have hle := HF.out.le j
    by_cases hd : fo l j < j
    · have HN : Hid (root (fo l) (fo l j) = root (fo l) i) := Lib.hid (by rw [← root_down hd]; exact HI.out)
      have hne : ((fo l j : Int) != (j : Int)) = true := by rw [bne_iff_ne]; omega
      generalize fo l j = y at *
      go_wp2
      go_roundw
      case rel => exact ⟨y, by omega, rfl, HN, by first | rfl | trivial⟩
      case measure => simp [intOf]; omega
    · have he : fo l j = j := by omega
      have HE : Hid (root (fo l) i = j) := Lib.hid (by rw [← HI.out]; exact root_of_fix HF.out.le he)
      rw [he] at hc
      have hne : ((j : Int) != (j : Int)) = false := by simp
      clear hd he hle HI
      go_wp2
      go_ret
      exact ⟨ret_i64 (by rw [HE.out]), rfl⟩
theorem checkBoth_ok (a b : List Int) (A A2 : Option Addr) (n c c2 : Nat) (w : World) (hR : Reads w w.heap.size 1 A n (ints a)) (hR2 : Reads w w.heap.size 1 A2 n (ints b)) (hm : n ≤ 64) (ha : partErr a = 0) (hb : partErr b = 0) :
    Calls Tryd.prog 67 #[.slice A n c, .slice A2 n c2] w fun e w' => e = .returned (.int .i64 0) ∧ w = w' := by
  have H1 := Lib.hid (pCheck_any a A n c _ w hR (by unfold maxLen; omega))
  have H2 := Lib.hid (pCheck_any b A2 n c2 _ w hR2 (by unfold maxLen; omega))
  rw [ha] at H1
  rw [hb] at H2
  have hne : ((n : Int) != (n : Int)) = false := by simp
  clear hR hR2 ha hb
  go_enter Tryd.func67, Tryd.ntmps67
  go_wp2_with fail
  refine (H1.out).mono ?_
  rintro e w' ⟨rfl, rfl⟩
  go_wp2_with fail
  refine (H2.out).mono ?_
  rintro e w' ⟨rfl, rfl⟩
  go_wp2
  go_ret
  exact ⟨rfl, rfl⟩
/-- a list of numbers over n points, and no error -/
def GivesP (L : List Int) (n : Nat) (w : World) (e : Ending) (w' : World) : Prop :=
  ∃ A c, e = .returned (.tuple #[.slice A n c, .int .i64 0]) ∧ Reads w' w'.heap.size 1 A n (ints L) ∧ Below w.heap.size w w'
set_option maxRecDepth 100000 in
set_option maxHeartbeats 4000000 in
theorem join_any (a b : List Int) (A A2 : Option Addr) (n c c2 : Nat) (w : World) (hR : Reads w w.heap.size 1 A n (ints a)) (hR2 : Reads w w.heap.size 1 A2 n (ints b)) (hm : n ≤ 64) (ha : partErr a = 0) (hb : partErr b = 0) (hpos : 0 < n) :
    Calls Tryd.prog 44 #[.slice A n c, .slice A2 n c2] w fun e w' => ∃ l, JInv a b n n l ∧ GivesP (rootL l n) n w e w' := by
  have hla := hR.int_len
  have hlb := hR2.int_len
  have hmf : ∀ (fn : Fn) (first cap : Array Value) (w : World), (Instr.makeFunc fn first cap).run Tryd.prog w = .ok (.func fn first cap) w := fun _ _ _ _ => rfl
  have H1 := Lib.hid (checkBoth_ok a b A A2 n c c2 w hR hR2 hm ha hb)
  have H2 := Lib.hid (cloneI_any a A n c w hR hm)
  have HR2 := Lib.hid hR2
  have HJ := Lib.hid (JInv.start b hla ha)
  have HFB := Lib.hid (part_forest hb)
  have HLB := Lib.hid hlb
  clear hR hR2 ha hb hla hlb
  go_enter Tryd.func44, Tryd.ntmps44
  go_wp2_with fail
  refine (H1.out).mono ?_
  rintro e w' ⟨rfl, rfl⟩
  go_wp2_with fail
  refine (H2.out).mono ?_
  rintro e w1 ⟨A1, c1, rfl, hg, hb1⟩
  obtain ⟨g, rfl, hg1, hH1⟩ := hg hpos
  have HG1 := Lib.hid hg1
  have hglt := hH1.lt
  have HH1 := Lib.hid hH1
  have HB1 := Lib.hid hb1
  have hsz1 := hb1.size
  clear hg hg1 hH1 hb1
  have HI0 : Hid (JInv a b n 0 a ∧ HoldsJ (w1.alloc (.cells #[.slice (some ⟨g, 0, none⟩) n c1] 22)) g a ∧ (w1.alloc (.cells #[.slice (some ⟨g, 0, none⟩) n c1] 22)).cell? ⟨w1.heap.size, 0, none⟩ = some (.slice (some ⟨g, 0, none⟩) n c1) ∧ BelowBut w1.heap.size g w1 (w1.alloc (.cells #[.slice (some ⟨g, 0, none⟩) n c1] 22))) :=
    Lib.hid ⟨HJ.out, HH1.out.below ((Below.refl w1.heap.size w1).alloc (Nat.le_refl _) _) hglt, (by rw [Lib.cell_of_heap (heap_alloc_new w1 _)]; rfl), BelowBut.of ((Below.refl w1.heap.size w1).alloc (Nat.le_refl _) _) g⟩
  go_wp2
  generalize w1.alloc (.cells #[.slice (some ⟨g, 0, none⟩) n c1] 22) = w2 at *
  clear hmf HH1
  go_loopw [25] (fun i wr => ∃ (k : Nat) (l : List Int), k ≤ n ∧ i = .int .i64 k ∧ Hid (JInv a b n k l ∧ HoldsJ wr g l ∧ wr.cell? ⟨w1.heap.size, 0, none⟩ = some (.slice (some ⟨g, 0, none⟩) n c1) ∧ BelowBut w1.heap.size g w1 wr)) (fun i _ => n - (intOf i).toNat)
  case atStart => exact ⟨0, a, Nat.zero_le _, rfl, HI0⟩
  case round =>
    clear HI0
    obtain ⟨k, l, hk, rfl, HI⟩ := hrel
    by_cases hlt : k < n
    · have hbw : Below w.heap.size w wr := HB1.out.trans ((HI.out.2.2.2.mono hsz1).below HG1.out)
      obtain ⟨ad2, rfl, _, hc2⟩ := (HR2.out.below hbw).int_at hlt
      rw [HFB.out.at_ (show k < b.length by have := HLB.out; omega)] at hc2
      have hfb : fo b k < n := fo_lt HFB.out hlt
      have hcP := HI.out.2.2.1
      have HL1 := Lib.hid (lowest_any l w1.heap.size g n c1 k wr hcP HI.out.2.1 HI.out.1.len HI.out.1.forest hlt hm)
      have HL2 := Lib.hid (lowest_any l w1.heap.size g n c1 (fo b k) wr hcP HI.out.2.1 HI.out.1.len HI.out.1.forest hfb hm)
      have hu := HI.out.1.root_lt hlt
      have hv := HI.out.1.root_lt hfb
      have HCELL := Lib.hid (fun i (hi : i < n) => HI.out.2.1.cell i (by rw [HI.out.1.len]; exact hi))
      have HFREE := Lib.hid (fun i => HI.out.2.1.free i)
      have HJN := Lib.hid (HI.out.1.join HFB.out hlt)
      generalize root (fo l) k = u at *
      generalize hfk : fo b k = y at *
      generalize root (fo l) y = v at *
      go_wp2_with fail
      refine (HL1.out).mono ?_
      rintro e w' ⟨rfl, rfl⟩
      go_wp2_with fail
      refine (HL2.out).mono ?_
      rintro e w' ⟨rfl, rfl⟩
      by_cases huv : u ≤ v
      · have hmax : max (u : Int) (v : Int) = (v : Int) := by omega
        have hmin : min (u : Int) (v : Int) = (u : Int) := by omega
        have hcz := HCELL.out v (by omega)
        have hfz := HFREE.out v
        generalize l.getD v 0 = old at hcz
        have HN : Hid (JInv a b n (k + 1) (l.set v (u : Int)) ∧ HoldsJ (wr.setCell ⟨g, v, none⟩ (.int .i64 (u : Int))) g (l.set v (u : Int)) ∧ (wr.setCell ⟨g, v, none⟩ (.int .i64 (u : Int))).cell? ⟨w1.heap.size, 0, none⟩ = some (.slice (some ⟨g, 0, none⟩) n c1) ∧ BelowBut w1.heap.size g w1 (wr.setCell ⟨g, v, none⟩ (.int .i64 (u : Int)))) :=
          Lib.hid ⟨HJN.out u v (.inl ⟨rfl, rfl, by omega⟩), HI.out.2.1.put v _, (World.cell?_setCell_other wr ⟨g, v, none⟩ ⟨w1.heap.size, 0, none⟩ _ (by intro e; injection e with e1 e2; omega)).trans hcP, HI.out.2.2.2.setCell v _⟩
        clear HI
        go_wp2
        go_roundw
        case rel => exact ⟨k + 1, _, by omega, by go_num, HN⟩
        case measure => simp [intOf]; omega
      · have hmax : max (u : Int) (v : Int) = (u : Int) := by omega
        have hmin : min (u : Int) (v : Int) = (v : Int) := by omega
        have hcz := HCELL.out u (by omega)
        have hfz := HFREE.out u
        generalize l.getD u 0 = old at hcz
        have HN : Hid (JInv a b n (k + 1) (l.set u (v : Int)) ∧ HoldsJ (wr.setCell ⟨g, u, none⟩ (.int .i64 (v : Int))) g (l.set u (v : Int)) ∧ (wr.setCell ⟨g, u, none⟩ (.int .i64 (v : Int))).cell? ⟨w1.heap.size, 0, none⟩ = some (.slice (some ⟨g, 0, none⟩) n c1) ∧ BelowBut w1.heap.size g w1 (wr.setCell ⟨g, u, none⟩ (.int .i64 (v : Int)))) :=
          Lib.hid ⟨HJN.out v u (.inr ⟨rfl, rfl, by omega⟩), HI.out.2.1.put u _, (World.cell?_setCell_other wr ⟨g, u, none⟩ ⟨w1.heap.size, 0, none⟩ _ (by intro e; injection e with e1 e2; omega)).trans hcP, HI.out.2.2.2.setCell u _⟩
        clear HI
        go_wp2
        go_roundw
        case rel => exact ⟨k + 1, _, by omega, by go_num, HN⟩
        case measure => simp [intOf]; omega
    · have hkn : n = k := by omega
      subst hkn
      have hcP := HI.out.2.2.1
      have HJF := Lib.hid HI.out.1
      have HI2 : Hid (HoldsJ wr g (halfL l n 0) ∧ wr.cell? ⟨w1.heap.size, 0, none⟩ = some (.slice (some ⟨g, 0, none⟩) n c1) ∧ BelowBut w1.heap.size g w1 wr) := Lib.hid ⟨by rw [halfL_zero HI.out.1.len]; exact HI.out.2.1, hcP, HI.out.2.2.2⟩
      clear HI
      go_wp2
      go_loopw [47] (fun i wr' => ∃ k : Nat, k ≤ n ∧ i = .int .i64 k ∧ Hid (HoldsJ wr' g (halfL l n k) ∧ wr'.cell? ⟨w1.heap.size, 0, none⟩ = some (.slice (some ⟨g, 0, none⟩) n c1) ∧ BelowBut w1.heap.size g w1 wr')) (fun i _ => n - (intOf i).toNat)
      case atStart => exact ⟨0, Nat.zero_le _, rfl, HI2⟩
      case round =>
        clear HI2 hcP
        obtain ⟨k, hk, rfl, HI⟩ := hrel
        have hcP := HI.out.2.1
        by_cases hlt : k < n
        · have er := halfL_root HJF.out.forest HJF.out.len k (by omega) k
          have HL0 := Lib.hid (lowest_any (halfL l n k) w1.heap.size g n c1 k wr hcP HI.out.1 (halfL_len l n k) (halfL_forest HJF.out.forest HJF.out.len k) hlt hm)
          have HL1 := Lib.hid (lowest_any (halfL l n k) w1.heap.size g n c1 k wr.drew hcP HI.out.1 (halfL_len l n k) (halfL_forest HJF.out.forest HJF.out.len k) hlt hm)
          rw [er] at HL0 HL1
          have hcz := HI.out.1.cell k (by rw [halfL_len]; exact hlt)
          have hfz := HI.out.1.free k
          have HN : Hid (HoldsJ (wr.setCell ⟨g, k, none⟩ (.int .i64 (root (fo l) k : Int))) g (halfL l n (k + 1)) ∧ (wr.setCell ⟨g, k, none⟩ (.int .i64 (root (fo l) k : Int))).cell? ⟨w1.heap.size, 0, none⟩ = some (.slice (some ⟨g, 0, none⟩) n c1) ∧ BelowBut w1.heap.size g w1 (wr.setCell ⟨g, k, none⟩ (.int .i64 (root (fo l) k : Int)))) :=
            Lib.hid ⟨by rw [← halfL_set]; exact HI.out.1.put k _, (World.cell?_setCell_other wr ⟨g, k, none⟩ ⟨w1.heap.size, 0, none⟩ _ (by intro e; injection e with e1 e2; omega)).trans hcP, HI.out.2.2.setCell k _⟩
          generalize (halfL l n k).getD k 0 = old at hcz
          generalize root (fo l) k = u at *
          clear HI er
          go_wp2
          go_region_with (go_at_call 72; first | (refine (HL0.out).mono ?_; rintro e w' ⟨rfl, rfl⟩) | (refine (HL1.out).mono ?_; rintro e w' ⟨rfl, rfl⟩))
          all_goals go_wp2
          all_goals go_roundw
          all_goals first
            | exact ⟨k + 1, by omega, by go_num, Lib.hid ⟨HN.out.1, HN.out.2.1, HN.out.2.2.drew⟩⟩
            | (simp [intOf]; omega)
        · have hkn : n = k := by omega
          subst hkn
          go_wp2
          go_ret2
          have hr := HI.out.1.reads
          rw [halfL_len, halfL_full] at hr
          exact ⟨l, HJF.out, _, c1, rfl, hr, HB1.out.trans ((HI.out.2.2.mono hsz1).below HG1.out)⟩
end Go.Proofs.YtfbgabcdeecpoaaDoor
/- Layer 3: refinement, the trivial partition, partitions by keys; Join of no points. -/
namespace Go.Proofs.YtfbgabcdeecpoaaDoor
open Go.RowKit Go.Proofs.Ws
end Go.Proofs.YtfbgabcdeecpoaaDoor
/- Layer 3: the chapter's examples come out as they should. -/
namespace Go.Proofs.YtfbgabcdeecpoaaDoor
open Go.RowKit Go.Proofs.Ws
theorem Reads.step {w w' : World} {A : Option Addr} {n : Nat} {xs : List Value} (h : Reads w w.heap.size 1 A n xs) (hb : Below w.heap.size w w') : Reads w' w'.heap.size 1 A n xs := (h.below hb).more hb.size
section
variable (A : Option Addr) (c : Nat) (w : World) (hR : Reads w w.heap.size 1 A 4 (ints [0, 1, 0, 3]))
include hR
end
end Go.Proofs.YtfbgabcdeecpoaaDoor
/- Mathematics of partitions: the order of refinement, meet and join as its bounds. -/
namespace Go.Proofs.YtfbgabcdeecpoaaDoor
open Go.RowKit Go.Proofs.Ws
/-- a partition of n points -/
structure Can (n : Nat) (q : List Int) : Prop where
  len : q.length = n
  ok : partErr q = 0
/-- q refines r -/
def Rf (q r : List Int) : Prop := ∀ i, fo r (fo q i) = fo r i
theorem Can.idem {n : Nat} {q : List Int} (h : Can n q) (i : Nat) : fo q (fo q i) = fo q i := by
  have hf := part_forest h.ok
  have h1 := root_step hf.le i
  rw [part_root h.ok, part_root h.ok] at h1
  exact h1
theorem Can.refl {n : Nat} {q : List Int} (h : Can n q) : Rf q q := h.idem
theorem Rf.trans {q r s : List Int} (h : Rf q r) (k : Rf r s) : Rf q s := fun i => by
  rw [← k (fo q i), h i, k i]
theorem Can.ext {n : Nat} {q r : List Int} (hq : Can n q) (hr : Can n r) (h : ∀ i, fo q i = fo r i) : q = r := by
  apply List.ext_getElem
  · rw [hq.len, hr.len]
  · intro i h1 h2
    have e1 := (part_forest hq.ok).at_ h1
    have e2 := (part_forest hr.ok).at_ h2
    rw [List.getD_eq_getElem?_getD, List.getElem?_eq_getElem h1] at e1
    rw [List.getD_eq_getElem?_getD, List.getElem?_eq_getElem h2] at e2
    have e1' : q[i] = (fo q i : Int) := e1
    have e2' : r[i] = (fo r i : Int) := e2
    rw [e1', e2', h]
theorem Rf.antisymm {n : Nat} {q r : List Int} (hq : Can n q) (hr : Can n r) (h : Rf q r) (k : Rf r q) : q = r := by
  refine hq.ext hr (fun i => ?_)
  have h1 : fo r i ≤ fo q i := by rw [← h i]; exact (part_forest hr.ok).le _
  have h2 : fo q i ≤ fo r i := by rw [← k i]; exact (part_forest hq.ok).le _
  omega
theorem firstAt_idem (a b : List Int) (i : Nat) : firstAt a b (firstAt a b i) = firstAt a b i := by
  obtain ⟨h1, h2, h3⟩ := firstAt_spec a b i
  exact firstAt_unique a b _ _ (sameAt_self a b _) (fun j hj => by rw [← sameAt_trans h1]; exact h3 j hj)
section
variable {n : Nat} {a b : List Int} (hla : a.length = n) (hm : n ≤ 64)
include hla
theorem canonL_len : (canonL a b).length = n := by simp [canonL, hla]
theorem canonL_getD {i : Nat} (hi : i < n) : (canonL a b).getD i 0 = (firstAt a b i : Int) := by
  unfold canonL
  rw [List.getD_eq_getElem?_getD, List.getElem?_map, List.getElem?_range (by rw [hla]; exact hi)]; rfl
include hm
theorem canon_can : Can n (canonL a b) where
  len := canonL_len hla
  ok := partErr_ok (by rw [canonL_len hla]; exact hm) (fun i hi => by
    rw [canonL_len hla] at hi
    have h2 := (firstAt_spec a b i).2.1
    unfold okAt
    rw [canonL_getD hla hi, Int.toNat_natCast, canonL_getD hla (show firstAt a b i < n by omega), firstAt_idem a b, decide_eq_true rfl, decide_eq_true (show (0 : Int) ≤ (firstAt a b i : Int) by omega), decide_eq_true (show (firstAt a b i : Int) ≤ (i : Int) by omega)]; rfl)
end
theorem fo_canon {n : Nat} {a b : List Int} (hla : a.length = n) {i : Nat} (hi : i < n) : fo (canonL a b) i = firstAt a b i := by
  unfold fo
  rw [if_pos (by rw [canonL_len hla]; exact hi), canonL_getD hla hi]; simp
theorem fo_out {l : List Int} {n i : Nat} (hl : l.length = n) (hi : ¬ i < n) : fo l i = i := by unfold fo; rw [if_neg (by rw [hl]; exact hi)]
theorem meet_l {n : Nat} {a b : List Int} (ha : Can n a) : Rf (canonL a b) a := fun i => by
  by_cases hi : i < n
  · rw [fo_canon ha.len hi]
    have h := (sameAt_iff a b i _).1 (firstAt_spec a b i).1
    have h2 := (firstAt_spec a b i).2.1
    have e1 := (part_forest ha.ok).at_ (i := i) (by rw [ha.len]; exact hi)
    have e2 := (part_forest ha.ok).at_ (i := firstAt a b i) (by rw [ha.len]; omega)
    have := h.1
    rw [e1, e2] at this
    omega
  · rw [fo_out (canonL_len ha.len) hi]
/-- the finest partition that both refine -/
structure Lub (n : Nat) (a b j : List Int) : Prop where
  can : Can n j
  l : Rf a j
  r : Rf b j
  least : ∀ q, Rf a q → Rf b q → Rf j q
theorem fo_root {l : List Int} {n : Nat} (hl : l.length = n) (i : Nat) : fo (rootL l n) i = root (fo l) i := by
  by_cases hi : i < n
  · unfold fo
    rw [if_pos (by simp [rootL]; exact hi)]
    unfold rootL
    rw [List.getD_eq_getElem?_getD, List.getElem?_map, List.getElem?_range hi]; rfl
  · rw [fo_out (by simp [rootL]) hi, root_top (by rw [fo_out hl hi]; omega)]
theorem JInv.lub {a b : List Int} {n : Nat} {l : List Int} (h : JInv a b n n l) (ha : Can n a) (hb : Can n b) (hm : n ≤ 64) : Lub n a b (rootL l n) := by
  have hfo := fo_root h.len
  have hlen : (rootL l n).length = n := by simp [rootL]
  refine ⟨⟨hlen, partErr_ok (by rw [hlen]; exact hm) (fun i hi => ?_)⟩, fun i => ?_, fun i => ?_, fun q hqa hqb i => ?_⟩
  · rw [hlen] at hi
    have hle := root_le h.forest.le i
    have e : ∀ j, j < n → (rootL l n).getD j 0 = (root (fo l) j : Int) := fun j hj => by
      unfold rootL
      rw [List.getD_eq_getElem?_getD, List.getElem?_map, List.getElem?_range hj]; rfl
    unfold okAt
    rw [e i hi, Int.toNat_natCast, e _ (show root (fo l) i < n by omega), root_root h.forest.le, decide_eq_true rfl, decide_eq_true (show (0 : Int) ≤ (root (fo l) i : Int) by omega), decide_eq_true (show (root (fo l) i : Int) ≤ (i : Int) by omega)]; rfl
  · rw [hfo, hfo]
    by_cases hi : i < n
    · exact h.ea i hi
    · rw [fo_out ha.len hi]
  · rw [hfo, hfo]
    by_cases hi : i < n
    · exact h.eb i hi
    · rw [fo_out hb.len hi]
  · rw [hfo]
    exact root_const (fo q) (h.least (fo q) hqa hqb) i
theorem Lub.unique {n : Nat} {a b j k : List Int} (h : Lub n a b j) (h' : Lub n a b k) : j = k :=
  Rf.antisymm h.can h'.can (h.least k h'.l h'.r) (h'.least j h.l h.r)
theorem Lub.symm {n : Nat} {a b j : List Int} (h : Lub n a b j) : Lub n b a j := ⟨h.can, h.r, h.l, fun q h1 h2 => h.least q h2 h1⟩
theorem Lub.self {n : Nat} {a : List Int} (h : Can n a) : Lub n a a a := ⟨h, h.refl, h.refl, fun _ h1 _ => h1⟩
end Go.Proofs.YtfbgabcdeecpoaaDoor
/- Layer 3: Join told by its bounds; partitions by keys; the bounds of two partitions. -/
namespace Go.Proofs.YtfbgabcdeecpoaaDoor
open Go.RowKit Go.Proofs.Ws
theorem can_nil {q : List Int} (h : Can 0 q) : q = [] := List.length_eq_zero_iff.1 h.len
theorem lub_nil : Lub 0 [] [] [] :=
  ⟨⟨rfl, by decide⟩, fun i => by rw [fo_out (l := []) (n := 0) rfl (by omega)], fun i => by rw [fo_out (l := []) (n := 0) rfl (by omega)], fun q _ _ i => by rw [fo_out (l := []) (n := 0) rfl (by omega)]⟩
set_option maxRecDepth 100000 in
set_option maxHeartbeats 4000000 in
theorem join0_any (A A2 : Option Addr) (c c2 : Nat) (w : World) :
    Calls Tryd.prog 44 #[.slice A 0 c, .slice A2 0 c2] w (GivesP [] 0 w) := by
  have hR : Reads w w.heap.size 1 A 0 (ints []) := ⟨by simp [ints], fun h => absurd h (by omega)⟩
  have hR2 : Reads w w.heap.size 1 A2 0 (ints []) := ⟨by simp [ints], fun h => absurd h (by omega)⟩
  have hmf : ∀ (fn : Fn) (first cap : Array Value) (w : World), (Instr.makeFunc fn first cap).run Tryd.prog w = .ok (.func fn first cap) w := fun _ _ _ _ => rfl
  have H1 := Lib.hid (checkBoth_ok [] [] A A2 0 c c2 w hR hR2 (by omega) (by decide) (by decide))
  have H2 := Lib.hid (cloneI_any [] A 0 c w hR (by omega))
  clear hR hR2
  go_enter Tryd.func44, Tryd.ntmps44
  go_wp2_with fail
  refine (H1.out).mono ?_
  rintro e w' ⟨rfl, rfl⟩
  go_wp2_with fail
  refine (H2.out).mono ?_
  rintro e w1 ⟨A1, c1, rfl, hg, hb1⟩
  have HB1 := Lib.hid hb1
  have hsz1 := hb1.size
  have hcP : (w1.alloc (.cells #[.slice A1 0 c1] 22)).cell? ⟨w1.heap.size, 0, none⟩ = some (.slice A1 0 c1) := by rw [Lib.cell_of_heap (heap_alloc_new w1 _)]; rfl
  have HB2 : Hid (Below w.heap.size w (w1.alloc (.cells #[.slice A1 0 c1] 22))) := Lib.hid (hb1.alloc hsz1 _)
  clear hg hb1
  go_wp2
  generalize w1.alloc (.cells #[.slice A1 0 c1] 22) = w2 at *
  clear hmf
  go_loopw [25] (fun i wr => i = .int .i64 ((0 : Nat) : Int) ∧ wr = w2) (fun i _ => 0 - (intOf i).toNat)
  case atStart => exact ⟨rfl, rfl⟩
  case round =>
    obtain ⟨rfl, rfl⟩ := hrel
    go_wp2
    go_loopw [47] (fun i wr' => i = .int .i64 ((0 : Nat) : Int) ∧ wr' = wr) (fun i _ => 0 - (intOf i).toNat)
    case atStart => exact ⟨rfl, rfl⟩
    case round =>
      obtain ⟨rfl, rfl⟩ := hrel
      go_wp2
      go_ret2
      exact ⟨A1, c1, rfl, ⟨by simp [ints], fun h => absurd h (by omega)⟩, HB2.out⟩
theorem joinLub_any (a b : List Int) (A A2 : Option Addr) (n c c2 : Nat) (w : World) (hR : Reads w w.heap.size 1 A n (ints a)) (hR2 : Reads w w.heap.size 1 A2 n (ints b)) (hm : n ≤ 64) (ha : Can n a) (hb : Can n b) :
    Calls Tryd.prog 44 #[.slice A n c, .slice A2 n c2] w fun e w' => ∃ j, Lub n a b j ∧ GivesP j n w e w' := by
  by_cases h : 0 < n
  · exact (join_any a b A A2 n c c2 w hR hR2 hm ha.ok hb.ok h).mono fun _ _ ⟨l, hl, hg⟩ => ⟨rootL l n, hl.lub ha hb hm, hg⟩
  · obtain rfl : n = 0 := by omega
    have e1 := can_nil ha
    have e2 := can_nil hb
    subst e1
    subst e2
    exact (join0_any A A2 c c2 w).mono fun _ _ hg => ⟨[], lub_nil, hg⟩
theorem can_wf {n : Nat} {q : List Int} (h : Can n q) (hm : n ≤ 64) : WFs q := fun i => by
  by_cases hi : i < q.length
  · have hf := part_forest h.ok
    rw [hf.at_ hi]
    have := hf.le i
    have := h.len
    exact WalkArith.wf_i64 (by omega)
  · rw [List.getD_eq_getElem?_getD, List.getElem?_eq_none (by omega)]; decide
end Go.Proofs.YtfbgabcdeecpoaaDoor
/- Layer 3: the check of a partition by the reference. -/
namespace Go.Proofs.YtfbgabcdeecpoaaDoor
open Go.RowKit Go.Proofs.Ws
set_option maxRecDepth 100000 in
theorem pRefCheck_any (l : List Int) (A : Option Addr) (n c B : Nat) (w : World) (hR : Reads w B 1 A n (ints l)) (hm : n ≤ maxLen) :
    Calls Tryd.prog 51 #[.slice A n c] w fun e w' => e = .returned (.int .i64 (partErr l)) ∧ w = w' := by
  unfold maxLen at hm
  have hl := hR.int_len
  by_cases h64 : n ≤ 64
  · have HOK := Lib.hid (partErr_ok (l := l) (by omega))
    have HBAD := Lib.hid (fun i (hi : i < n) => partErr_bad (l := l) (by omega) (i := i) (by omega))
    have HL := Lib.hid hl
    clear hl
    go_enter Tryd.func51, Tryd.ntmps51
    go_wp2
    go_loopw [10] (fun i wr => ∃ k : Nat, k ≤ n ∧ i = .int .i64 k ∧ Hid (∀ i, i < k → okAt l i = true) ∧ wr = w) (fun i _ => n - (intOf i).toNat)
    case atStart => exact ⟨0, Nat.zero_le _, rfl, Lib.hid (fun i hi => absurd hi (by omega)), rfl⟩
    case round =>
      obtain ⟨k, hk, rfl, HI, rfl⟩ := hrel
      by_cases hlt : k < n
      · obtain ⟨ad, rfl, hb, hc⟩ := hR.int_at hlt
        obtain ⟨x, hx⟩ : ∃ x, l.getD k 0 = x := ⟨_, rfl⟩
        rw [hx] at hc
        have HX := Lib.hid hx
        clear hx
        by_cases h0 : x < 0
        · have HB := Lib.hid (HBAD.out k hlt (by unfold okAt; rw [HX.out, decide_eq_false (by omega)]; rfl))
          have hd : decide (x < 0) = true := by simp; omega
          go_wp2
          go_ret
          exact ⟨ret_i64 HB.out.symm, rfl⟩
        · obtain ⟨y, rfl⟩ := Int.eq_ofNat_of_zero_le (show 0 ≤ x by omega)
          by_cases h1 : k < y
          · have HB := Lib.hid (HBAD.out k hlt (by unfold okAt; rw [HX.out, decide_eq_false (show ¬ ((y : Int) ≤ (k : Int)) by omega), Bool.and_false, Bool.false_and]))
            have hd : decide ((y : Int) < 0) = false := by simp
            have hd2 : decide ((k : Int) < (y : Int)) = true := by simp; omega
            have hd3 : decide (k < y) = true := by simp; omega
            clear h0
            go_wp2
            go_ret
            exact ⟨ret_i64 HB.out.symm, rfl⟩
          · have hyn : y < n := by omega
            obtain ⟨_, hA, _, hc2⟩ := hR.int_at hyn
            cases hA
            have hd : decide ((y : Int) < 0) = false := by simp
            have hd2 : decide ((k : Int) < (y : Int)) = false := by simp; omega
            have hd3 : decide (k < y) = false := by simp; omega
            by_cases h2 : l.getD y 0 = (y : Int)
            · have HN : Hid (∀ i, i < k + 1 → okAt l i = true) := Lib.hid (fun i hi => by
                by_cases e : i = k
                · subst e
                  unfold okAt
                  rw [HX.out, decide_eq_true (show (0 : Int) ≤ (y : Int) by omega), decide_eq_true (show (y : Int) ≤ (i : Int) by omega), Int.toNat_natCast, decide_eq_true h2]; rfl
                · exact HI.out i (by omega))
              rw [h2] at hc2
              clear h0 h2 HI
              go_wp2
              go_roundw
              case rel => exact ⟨k + 1, by omega, by go_num, HN, by first | rfl | trivial⟩
              case measure => simp [intOf]; omega
            · have HB := Lib.hid (HBAD.out k hlt (by unfold okAt; rw [HX.out, Int.toNat_natCast, decide_eq_false h2, Bool.and_false]))
              have hne : (l.getD y 0 != (y : Int)) = true := by rw [bne_iff_ne]; exact h2
              generalize l.getD y 0 = z at *
              clear h0 h2 HI
              go_wp2
              go_ret
              exact ⟨ret_i64 HB.out.symm, rfl⟩
      · have HB := Lib.hid (HOK.out (fun i hi => HI.out i (by have := HL.out; omega)))
        clear HI
        go_wp2
        go_ret
        exact ⟨ret_i64 HB.out.symm, rfl⟩
  · have HB : Hid (partErr l = 8) := Lib.hid (by unfold partErr; rw [if_pos (by omega)])
    clear hl
    go_enter Tryd.func51, Tryd.ntmps51
    go_wp2
    go_ret
    exact ⟨ret_i64 HB.out.symm, rfl⟩
end Go.Proofs.YtfbgabcdeecpoaaDoor
/- Layer 3: the block of a point by the reference. -/
namespace Go.Proofs.YtfbgabcdeecpoaaDoor
open Go.RowKit Go.Proofs.Ws
def bitV (k : Nat) : Nat := if k < 64 then p2 k else 0
theorem bitV_succ (k : Nat) (h : k < 64) : IntKind.u64.wrap ((bitV k : Int) * 2) = (bitV (k + 1) : Int) := by
  rw [IntKind.wrap_u64]
  unfold bitV p2
  rw [if_pos h]
  by_cases h2 : k + 1 < 64
  · rw [if_pos h2, Nat.pow_succ]
    have : 2 ^ (k + 1) < 2 ^ 64 := Nat.pow_lt_pow_right (by decide) h2
    rw [Nat.pow_succ] at this
    omega
  · obtain rfl : k = 63 := by omega
    rfl
set_option maxRecDepth 100000 in
theorem pRefBlock_any (l : List Int) (i : Int) (A : Option Addr) (n c : Nat) (w : World) (hR : Reads w w.heap.size 1 A n (ints l)) (hm : n ≤ maxLen) :
    Calls Tryd.prog 47 #[.slice A n c, .int .i64 i] w fun e w' => e = .returned (.int .u64 (blkV l i : Int)) ∧ ∃ q, w' = w.drewN q := by
  have hl := hR.int_len
  have HC := Lib.hid (pRefCheck_any l A n c _ w hR hm)
  unfold maxLen at hm
  by_cases h0 : partErr l = 0
  · have h64 := (part_of hl h0).1
    rw [h0] at HC
    by_cases hi : 0 ≤ i ∧ i < n
    · obtain ⟨x, rfl⟩ := Int.eq_ofNat_of_zero_le hi.1
      have hx : x < n := by omega
      have HV : Hid (blkV l (x : Int) = cls l (l.getD x 0) n) := Lib.hid (by unfold blkV; rw [if_pos ⟨h0, by omega, by omega⟩, hl]; rfl)
      have hd1 : decide ((x : Int) < 0) = false := by simp
      have hd2 : decide ((n : Int) ≤ (x : Int)) = false := by simp; omega
      have hd3 : decide (n ≤ x) = false := by simp; omega
      have HR := Lib.hid hR
      obtain ⟨ad, rfl, hb, hcx⟩ := hR.int_at hx
      clear h0 hi hR hl
      generalize l.getD x 0 = y at *
      go_enter Tryd.func47, Tryd.ntmps47
      go_wp2_with fail
      refine (HC.out).mono ?_
      rintro e w' ⟨rfl, rfl⟩
      go_wp2
      go_loopw [5, 6, 23] (fun sv bv j wr => ∃ k q : Nat, k ≤ n ∧ j = .int .i64 k ∧ sv = .int .u64 (cls l y k : Int) ∧ bv = .int .u64 (bitV k : Int) ∧ wr = w.drewN q) (fun _ _ j _ => n - (intOf j).toNat)
      case atStart => exact ⟨0, 0, Nat.zero_le _, rfl, rfl, rfl, rfl⟩
      case round =>
        obtain ⟨k, q, hk, rfl, rfl, rfl, rfl⟩ := hrel
        by_cases hlt : k < n
        · obtain ⟨_, hA, _, hck⟩ := HR.out.int_at hlt
          cases hA
          have hbs := bitV_succ k (by omega)
          by_cases heq : l.getD k 0 = y
          · have hca := cls_add l y k
            have hlt64 : cls l y k + 2 ^ k < 18446744073709551616 := by
              rw [← hca.2]; exact (or_pow _ k (cls_lt l y k (by omega)) (by omega)).2
            have hbk : bitV k = 2 ^ k := by unfold bitV p2; rw [if_pos (by omega)]
            have hadd : IntKind.u64.wrap ((cls l y k : Int) + (bitV k : Int)) = (cls l y (k + 1) : Int) := by
              rw [cls_succ, if_pos heq, hca.2, hbk, IntKind.wrap_u64]
              omega
            rw [heq] at hck
            have hb1 : (y == y) = true := by simp
            clear hca hlt64 hbk heq
            generalize cls l y k = s at *
            generalize bitV k = b at *
            go_wp2
            go_quiet (fail)
            go_wp2
            go_roundw
            case rel => exact ⟨k + 1, q + nq, by omega, by go_num, by first | rfl | (rw [hadd]) | skip, by first | rfl | (rw [hbs]) | skip, by first | rfl | rw [World.drewN_drewN]⟩
            case measure => simp [intOf]; omega
          · have hcs : cls l y (k + 1) = cls l y k := by rw [cls_succ, if_neg heq]
            have hb1 : (l.getD k 0 == y) = false := by rw [beq_eq_false_iff_ne]; exact heq
            generalize l.getD k 0 = z at *
            generalize cls l y k = s at *
            generalize bitV k = b at *
            clear heq
            go_wp2
            go_quiet (fail)
            go_wp2
            go_roundw
            case rel => exact ⟨k + 1, q + nq, by omega, by go_num, by rw [hcs], by first | rfl | (rw [hbs]), by first | rfl | rw [World.drewN_drewN]⟩
            case measure => simp [intOf]; omega
        · have hkn : n = k := by omega
          subst hkn
          go_wp2
          go_ret
          exact ⟨ret_u64 (by rw [HV.out]), ⟨q, rfl⟩⟩
    · have HV : Hid (blkV l i = 0) := Lib.hid (by unfold blkV; rw [if_neg (by rw [hl]; rintro ⟨_, h⟩; exact hi h)])
      clear h0
      by_cases hneg : i < 0
      · have hd1 : decide (i < 0) = true := by simp; omega
        clear hi
        go_enter Tryd.func47, Tryd.ntmps47
        go_wp2_with fail
        refine (HC.out).mono ?_
        rintro e w' ⟨rfl, rfl⟩
        go_wp2
        go_ret
        exact ⟨ret_u64 (by rw [HV.out]; rfl), ⟨0, rfl⟩⟩
      · have hd1 : decide (i < 0) = false := by simp; omega
        have hd2 : decide ((n : Int) ≤ i) = true := by simp; omega
        clear hi
        go_enter Tryd.func47, Tryd.ntmps47
        go_wp2_with fail
        refine (HC.out).mono ?_
        rintro e w' ⟨rfl, rfl⟩
        go_wp2
        go_ret
        exact ⟨ret_u64 (by rw [HV.out]; rfl), ⟨0, rfl⟩⟩
  · have HV : Hid (blkV l i = 0) := Lib.hid (by unfold blkV; rw [if_neg (fun h => h0 h.1)])
    have hne : (partErr l != 0) = true := by simp [h0]
    clear h0
    go_enter Tryd.func47, Tryd.ntmps47
    go_wp2_with fail
    refine (HC.out).mono ?_
    rintro e w' ⟨rfl, rfl⟩
    go_wp2
    go_ret
    exact ⟨ret_u64 (by rw [HV.out]; rfl), ⟨0, rfl⟩⟩
end Go.Proofs.YtfbgabcdeecpoaaDoor
