/- Layer 3: the relation of a partition, by the program. -/
import Derived.Test.YtichhbnpdhfimaaDoorAb
import Derived.Test.YtichhbnpdhfimaaDoorPa
import Derived.BigRegion
import Derived.Deep.RegionWith
namespace Go.Proofs.YtichhbnpdhfimaaDoor
open Go.RowKit Go.Proofs.Ws
/-- the points before k with a number -/
def cls (l : List Int) (x : Int) (k : Nat) : Nat := (List.range k).foldl (fun a j => if l.getD j 0 = x then a ||| p2 j else a) 0
theorem cls_succ (l : List Int) (x : Int) (k : Nat) : cls l x (k + 1) = if l.getD k 0 = x then cls l x k ||| p2 k else cls l x k := by
  unfold cls; rw [List.range_succ, List.foldl_append]; rfl
theorem cls_lt (l : List Int) (x : Int) : ∀ k, k ≤ 64 → cls l x k < 18446744073709551616
  | 0, _ => by show 0 < 18446744073709551616; decide
  | k + 1, h => by
    rw [cls_succ]
    split
    · exact (or_pow _ k (cls_lt l x k (by omega)) (by omega)).2
    · exact cls_lt l x k (by omega)
theorem cls_bit (l : List Int) (x : Int) (v : Nat) : ∀ k, (cls l x k).testBit v = true ↔ v < k ∧ l.getD v 0 = x
  | 0 => by simp [cls]
  | k + 1 => by
    rw [cls_succ]
    split
    · rename_i h
      rw [Nat.testBit_or, Bool.or_eq_true, cls_bit l x v k, p2_bit, decide_eq_true_eq]
      constructor
      · rintro (⟨h1, h2⟩ | rfl)
        · exact ⟨by omega, h2⟩
        · exact ⟨by omega, h⟩
      · rintro ⟨h1, h2⟩
        by_cases e : k = v
        · exact .inr e
        · exact .inl ⟨by omega, h2⟩
    · rename_i h
      rw [cls_bit l x v k]
      constructor
      · rintro ⟨h1, h2⟩; exact ⟨by omega, h2⟩
      · rintro ⟨h1, h2⟩
        by_cases e : v = k
        · subst e; exact absurd h2 h
        · exact ⟨by omega, h2⟩
/-- the relation of being together -/
def relL (l : List Int) : List Nat := (List.range l.length).map (fun i => cls l (l.getD i 0) l.length)
def mapR (f : Nat → Nat) (n : Nat) : List Nat := (List.range n).map f
theorem mapR_length (f : Nat → Nat) (n : Nat) : (mapR f n).length = n := by simp [mapR]
theorem mapR_getD (f : Nat → Nat) (n k : Nat) (h : k < n) : (mapR f n).getD k 0 = f k := by
  unfold mapR; rw [List.getD_eq_getElem?_getD, List.getElem?_map, List.getElem?_range h]; rfl
theorem mapR_congr {f g : Nat → Nat} {n : Nat} (h : ∀ k, k < n → f k = g k) : mapR f n = mapR g n := by
  unfold mapR; exact List.map_congr_left (fun k hk => h k (List.mem_range.1 hk))
theorem mapR_set {f g : Nat → Nat} {n x v : Nat} (hx : g x = v) (hy : ∀ y, y < n → y ≠ x → g y = f y) : (mapR f n).set x v = mapR g n := by
  apply List.ext_getElem
  · simp [mapR]
  · intro i h1 h2
    rw [List.getElem_set]
    have hi : i < n := by rw [mapR_length] at h2; exact h2
    simp only [mapR, List.getElem_map, List.getElem_range]
    split
    · rename_i e; subst e; exact hx.symm
    · rename_i e; exact (hy i hi (fun e' => e e'.symm)).symm
theorem mapR_zero (n : Nat) : mapR (fun _ => 0) n = List.replicate n 0 := by
  apply List.ext_getElem
  · simp [mapR]
  · intro i h1 h2; simp [mapR]
/-- what the check of a partition says -/
theorem part_of {l : List Int} {n : Nat} (hl : l.length = n) (h : partErr l = 0) : n ≤ 64 ∧ ∀ i, i < n → ∃ y : Nat, l.getD i 0 = (y : Int) ∧ y ≤ i ∧ l.getD y 0 = (y : Int) := by
  unfold partErr at h
  rw [hl] at h
  split at h
  · cases h
  · split at h
    · rename_i h1 h2
      refine ⟨by omega, fun i hi => ?_⟩
      have := List.all_eq_true.1 h2 i (List.mem_range.2 hi)
      unfold okAt at this
      simp only [Bool.and_eq_true, decide_eq_true_eq] at this
      refine ⟨(l.getD i 0).toNat, by omega, by omega, ?_⟩
      rw [this.2]
      omega
    · cases h
theorem if_step {f g : Nat → Nat} (k z : Nat) (hz : z ≠ k) : (if z < k + 1 then f z else g z) = if z < k then f z else g z := by
  by_cases h : z < k
  · rw [if_pos (by omega), if_pos h]
  · rw [if_neg (by omega), if_neg h]
/-- what a call hands back: a list of words in memory of its own -/
def GivesW (L : List Nat) (w : World) (e : Ending) (w' : World) : Prop :=
  ∃ A c, e = .returned (.slice A L.length c) ∧ Reads w' w'.heap.size 1 A L.length (us L) ∧ Below w.heap.size w w'
set_option maxRecDepth 100000 in
set_option maxHeartbeats 2000000 in
theorem pRelation_any (l : List Int) (A : Option Addr) (n c : Nat) (w : World) (hR : Reads w w.heap.size 1 A n (ints l)) (hm : n ≤ maxLen) :
    Calls Tryd.prog 21 #[.slice A n c] w fun e w' => (partErr l = 0 ∧ GivesW (relL l) w e w') ∨ (partErr l ≠ 0 ∧ e = .returned (.slice none 0 0) ∧ w = w') := by
  have hl := hR.int_len
  have HC := Lib.hid (pCheck_any l A n c _ w hR hm)
  by_cases h0 : partErr l = 0
  · obtain ⟨h64, hp⟩ := part_of hl h0
    rw [h0] at HC
    have H0 := Lib.hid h0
    have HP := Lib.hid hp
    have HR := Lib.hid hR
    have HL : Hid (relL l = mapR (fun i => cls l (l.getD i 0) n) n) := Lib.hid (by unfold relL mapR; rw [hl])
    have hmk := makeU w n (by omega)
    have HH0 : Hid (HoldsU (w.alloc (.cells (us (List.replicate n 0)).toArray 33)) w.heap.size (mapR (fun x => cls l (x : Int) 0) n)) := Lib.hid (by
      have e : mapR (fun x => cls l (x : Int) 0) n = List.replicate n 0 := mapR_zero n
      rw [e]; exact HoldsU.made w _)
    have HB0 : Hid (Below w.heap.size w (w.alloc (.cells (us (List.replicate n 0)).toArray 33))) := Lib.hid ((Below.refl _ w).alloc (Nat.le_refl _) _)
    clear h0 hp hR hl
    go_enter Tryd.func21, Tryd.ntmps21
    go_wp2_with fail
    refine (HC.out).mono ?_
    rintro e w' ⟨rfl, rfl⟩
    go_wp2
    generalize w.alloc (.cells (us (List.replicate n 0)).toArray 33) = wx at *
    clear hmk
    go_loopw [16] (fun i wr => ∃ k : Nat, k ≤ n ∧ i = .int .i64 k ∧ Hid (HoldsU wr w.heap.size (mapR (fun x => cls l (x : Int) k) n) ∧ Below w.heap.size w wr)) (fun i _ => n - (intOf i).toNat)
    case atStart => exact ⟨0, Nat.zero_le _, rfl, Lib.hid ⟨HH0.out, HB0.out⟩⟩
    case round =>
      clear HH0 HB0
      obtain ⟨k, hk, rfl, HI⟩ := hrel
      by_cases hlt : k < n
      · obtain ⟨ad, hA, _, hc⟩ := (HR.out.below HI.out.2).int_at hlt
        subst hA
        obtain ⟨y, hy, hyk, _⟩ := HP.out k hlt
        rw [hy] at hc
        have hyn : y < n := by omega
        have hcz := HI.out.1.cell y (by rw [mapR_length]; exact hyn)
        rw [mapR_getD _ _ _ hyn] at hcz
        have hfz := HI.out.1.free y
        have hor := (or_pow (cls l (y : Int) k) k (cls_lt l _ k (by omega)) (by omega)).1
        have hpw := wrap_pow k (show k < 64 by omega)
        have HN : Hid (HoldsU (wr.setCell ⟨w.heap.size, y, none⟩ (.int .u64 ((cls l (y : Int) k ||| p2 k : Nat) : Int))) w.heap.size (mapR (fun x => cls l (x : Int) (k + 1)) n) ∧ Below w.heap.size w (wr.setCell ⟨w.heap.size, y, none⟩ (.int .u64 ((cls l (y : Int) k ||| p2 k : Nat) : Int)))) := Lib.hid ⟨by
          have := HI.out.1.put y (cls l (y : Int) k ||| p2 k)
          rw [mapR_set (g := fun x => cls l (x : Int) (k + 1)) (by show cls l (y : Int) (k + 1) = _; rw [cls_succ, if_pos hy]) (fun z _ hz => by show cls l (z : Int) (k + 1) = cls l (z : Int) k; rw [cls_succ, if_neg (by rw [hy]; omega)])] at this
          exact this, HI.out.2.setCell (p := ⟨w.heap.size, y, none⟩) (Nat.le_refl _) _⟩
        generalize cls l (y : Int) k = t at *
        clear HI hy
        go_wp2
        go_region
        all_goals (try simp only [hpw, hor])
        all_goals go_wp2
        all_goals go_roundw
        all_goals first
          | exact ⟨k + 1, by omega, by go_num, Lib.hid ⟨HN.out.1, HN.out.2.drew⟩⟩
          | (simp [intOf]; omega)
      · have hkn : n = k := by omega
        subst hkn
        have HI0 : Hid (HoldsU wr w.heap.size (mapR (fun i => if i < 0 then cls l (l.getD i 0) n else cls l (i : Int) n) n) ∧ Below w.heap.size w wr) := Lib.hid (by simpa using HI.out)
        clear HI
        go_wp2
        go_loopw [32] (fun i wr' => ∃ k : Nat, k ≤ n ∧ i = .int .i64 k ∧ Hid (HoldsU wr' w.heap.size (mapR (fun i => if i < k then cls l (l.getD i 0) n else cls l (i : Int) n) n) ∧ Below w.heap.size w wr')) (fun i _ => n - (intOf i).toNat)
        case atStart => exact ⟨0, Nat.zero_le _, rfl, HI0⟩
        case round =>
          clear HI0
          obtain ⟨k, hk, rfl, HI⟩ := hrel
          by_cases hlt : k < n
          · obtain ⟨ad, hA, _, hc⟩ := (HR.out.below HI.out.2).int_at hlt
            subst hA
            obtain ⟨y, hy, hyk, hyy⟩ := HP.out k hlt
            rw [hy] at hc
            have hyn : y < n := by omega
            have hcz := HI.out.1.cell y (by rw [mapR_length]; exact hyn)
            have ev : (if y < k then cls l (l.getD y 0) n else cls l (y : Int) n) = cls l (y : Int) n := by rw [hyy]; split <;> rfl
            rw [mapR_getD _ _ _ hyn, ev] at hcz
            have hfk := HI.out.1.free k
            have hck := HI.out.1.cell k (by rw [mapR_length]; exact hlt)
            generalize (mapR (fun i => if i < k then cls l (l.getD i 0) n else cls l (i : Int) n) n).getD k 0 = old at hck
            have HN : Hid (HoldsU (wr.setCell ⟨w.heap.size, k, none⟩ (.int .u64 (cls l (y : Int) n : Int))) w.heap.size (mapR (fun i => if i < k + 1 then cls l (l.getD i 0) n else cls l (i : Int) n) n) ∧ Below w.heap.size w (wr.setCell ⟨w.heap.size, k, none⟩ (.int .u64 (cls l (y : Int) n : Int)))) := Lib.hid ⟨by
              have := HI.out.1.put k (cls l (y : Int) n)
              rw [mapR_set (g := fun i => if i < k + 1 then cls l (l.getD i 0) n else cls l (i : Int) n) (by show (if k < k + 1 then _ else _) = _; rw [if_pos (by omega), hy]) (fun z _ hz => if_step (f := fun i => cls l (l.getD i 0) n) (g := fun i => cls l (i : Int) n) k z hz)] at this
              exact this, HI.out.2.setCell (p := ⟨w.heap.size, k, none⟩) (Nat.le_refl _) _⟩
            generalize cls l (y : Int) n = t at *
            clear HI hy hyy ev
            go_wp2
            go_roundw
            case rel => exact ⟨k + 1, by omega, by go_num, HN⟩
            case measure => simp [intOf]; omega
          · have hkn : n = k := by omega
            subst hkn
            have HE : Hid (relL l = mapR (fun i => if i < n then cls l (l.getD i 0) n else cls l (i : Int) n) n) := Lib.hid (by rw [HL.out]; exact mapR_congr (fun i hi => by rw [if_pos hi]))
            go_wp2
            go_ret
            refine Or.inl ⟨H0.out, _, n, ?_, by rw [HE.out]; exact HI.out.1.reads, HI.out.2⟩
            rw [HE.out, mapR_length]; rfl
  · have hne : (partErr l != 0) = true := by simp [h0]
    have H0 := Lib.hid h0
    clear h0 hR hl
    go_enter Tryd.func21, Tryd.ntmps21
    go_wp2_with fail
    refine (HC.out).mono ?_
    rintro e w' ⟨rfl, rfl⟩
    go_wp2
    go_ret
    exact Or.inr ⟨H0.out, rfl, rfl⟩
end Go.Proofs.YtichhbnpdhfimaaDoor
