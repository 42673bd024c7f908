/- Layer 3: the blocks, their number, refinement, by the program. -/
import Derived.Test.YtichhbnpdhfimaaDoorPc
namespace Go.Proofs.YtichhbnpdhfimaaDoor
open Go.RowKit Go.Proofs.Ws
/-- the blocks of the points before k -/
def blkTo (l : List Int) (k : Nat) : List Nat := ((List.range k).filter (fun i => decide (l.getD i 0 = (i : Int)))).map (fun (i : Nat) => cls l (i : Int) l.length)
theorem blkTo_hit (l : List Int) (k : Nat) (h : l.getD k 0 = (k : Int)) : blkTo l (k + 1) = blkTo l k ++ [cls l (k : Int) l.length] := by
  unfold blkTo; rw [List.range_succ, List.filter_append, List.map_append, List.filter_cons_of_pos (p := fun i : Nat => decide (l.getD i 0 = (i : Int))) (a := k) (decide_eq_true h)]; rfl
theorem blkTo_miss (l : List Int) (k : Nat) (h : ¬ l.getD k 0 = (k : Int)) : blkTo l (k + 1) = blkTo l k := by
  unfold blkTo; rw [List.range_succ, List.filter_append, List.map_append, List.filter_cons_of_neg (p := fun i : Nat => decide (l.getD i 0 = (i : Int))) (a := k) (by rw [decide_eq_true_eq]; exact h)]; simp
theorem blkTo_le (l : List Int) (k : Nat) : (blkTo l k).length ≤ k := by
  unfold blkTo
  rw [List.length_map]
  exact Nat.le_trans (List.length_filter_le _ _) (by simp)
def blocksL (l : List Int) : List Nat := if partErr l = 0 then blkTo l l.length else []
theorem us_append (l m : List Nat) : us (l ++ m) = us l ++ us m := by simp [us]
theorem own_reads' {w : World} {base : Nat} {e : TypeId} {v : Value} {n : Nat} {xs : List Value} (h : w.ownsRow base e 1 v n xs) :
    ∃ A c, v = .slice A n c ∧ Reads w w.heap.size 1 A n xs := own_reads h
set_option maxRecDepth 100000 in
set_option maxHeartbeats 2000000 in
theorem pBlocks_any (l : List Int) (A : Option Addr) (n c : Nat) (w : World) (hR : Reads w w.heap.size 1 A n (ints l)) (hm : n ≤ maxLen) :
    Calls Tryd.prog 22 #[.slice A n c] w (GivesW (blocksL l) w) := by
  obtain ⟨i0, hi, hz0, hz1, hz2⟩ := info_parts Tryd.infoU
  have hl := hR.int_len
  have HC := Lib.hid (pRelation_any l A n c w hR hm)
  have HR := Lib.hid hR
  clear hR
  unfold maxLen at hm
  by_cases h0 : partErr l = 0
  · have h64 := (part_of hl h0).1
    have HV : Hid (blocksL l = blkTo l n) := Lib.hid (by unfold blocksL; rw [if_pos h0, hl])
    have H0 := Lib.hid h0
    have hlen : (relL l).length = n := by rw [relL_length]; exact hl
    have HW := Lib.hid (relL_words (l := l) (by omega))
    clear h0
    go_enter Tryd.func22, Tryd.ntmps22
    go_wp2_with fail
    refine (HC.out).mono ?_
    rintro e w1 (⟨_, A1, c1, rfl, hR1, hb⟩ | ⟨hx, _⟩)
    · rw [hlen] at hR1 ⊢
      have HR1 := Lib.hid hR1
      have HB := Lib.hid hb
      have HL := Lib.hid hl
      clear hR1 hb hl hlen
      go_wp2
      go_loopw [3, 9] (fun v i wr => ∃ k : Nat, k ≤ n ∧ i = .int .i64 k ∧ wr.ownsRow w1.heap.size 33 1 v (blkTo l k).length (us (blkTo l k)) ∧ Hid (Below w1.heap.size w1 wr)) (fun _ i _ => n - (intOf i).toNat)
      case atStart => exact ⟨0, Nat.zero_le _, rfl, World.ownsRow_nil _ _ _ _, Lib.hid (Below.refl _ _)⟩
      case round =>
        obtain ⟨k, hk, rfl, hown, HBR⟩ := hrel
        by_cases hlt : k < n
        · obtain ⟨ad, rfl, _, hc⟩ := (HR.out.below (HB.out.trans (HBR.out.mono HB.out.size))).int_at hlt
          obtain ⟨ad1, rfl, _, hc1⟩ := (HR1.out.below HBR.out).word_k hlt
          rw [relL_getD l k (by have := HL.out; omega)] at hc1
          have hL := blkTo_le l k
          by_cases heq : l.getD k 0 = (k : Int)
          · rw [heq] at hc hc1
            have HE := Lib.hid (blkTo_hit l k heq)
            have hb1 : ((k : Int) == (k : Int)) = true := by simp
            have hsz := HBR.out.size
            clear heq
            generalize cls l (k : Int) l.length = x at *
            go_wp2_with (at_builtin; refine wpList_append_own _ rfl _ _ 22 rfl w1.heap.size 33 i0 (.int .u64 0) 1 8 Tryd.underlying22 hi hz0 hz1 hz2 rfl (by decide) _ _ _ rfl (hown.alloc _) ⟨wr.heap.size, 0, none⟩ 1 1 [.int .u64 x] rfl rfl ?c1 ?c2 ?c3 ?c4 ?c5 ?_)
            case c1 =>
              intro j u hj
              match j, hj with
              | 0, hj => simp at hj; subst hj; simp [Addr.add]
            case c2 => intro u hu; simp at hu; subst hu; rfl
            case c3 => unfold maxLen; omega
            case c4 => omega
            case c5 => simp; omega
            · intro v' w3 hown' hgrow _
              have HB3 : Hid (Below w1.heap.size w1 w3) := Lib.hid ((HBR.out.alloc hsz _).grown hgrow (by simp; omega) (fun j hj => by have := (hown.lt j hj).1; omega))
              have hown3 : w3.ownsRow w1.heap.size 33 1 v' (blkTo l (k + 1)).length (us (blkTo l (k + 1))) := by rw [HE.out, us_append, List.length_append]; exact hown'
              clear hgrow hown hown'
              go_wp2
              go_roundw
              case rel => exact ⟨k + 1, by omega, by go_num, hown3, HB3⟩
              case measure => simp [intOf]; omega
          · have hb1 : (l.getD k 0 == (k : Int)) = false := by rw [beq_eq_false_iff_ne]; exact heq
            have hown3 : wr.ownsRow w1.heap.size 33 1 u3 (blkTo l (k + 1)).length (us (blkTo l (k + 1))) := by rw [blkTo_miss l k heq]; exact hown
            clear heq hown
            generalize cls l (l.getD k 0) l.length = x at *
            generalize l.getD k 0 = z at *
            go_wp2
            go_roundw
            case rel => exact ⟨k + 1, by omega, by go_num, hown3, HBR⟩
            case measure => simp [intOf]; omega
        · have hkn : n = k := by omega
          subst hkn
          obtain ⟨A4, c4, rfl, hR4⟩ := own_reads hown
          have HR4 := Lib.hid hR4
          clear hown hR4
          go_wp2
          go_ret
          exact ⟨A4, c4, by rw [HV.out]; rfl, by rw [HV.out]; exact HR4.out, HB.out.trans (HBR.out.mono HB.out.size)⟩
    · exact absurd H0.out hx
  · have HV : Hid (blocksL l = []) := Lib.hid (by unfold blocksL; rw [if_neg h0])
    have H0 := Lib.hid h0
    clear h0
    go_enter Tryd.func22, Tryd.ntmps22
    go_wp2_with fail
    refine (HC.out).mono ?_
    rintro e w1 (⟨hx, _⟩ | ⟨_, rfl, rfl⟩)
    · exact absurd hx H0.out
    · go_wp2
      go_loopw [3, 9] (fun v i wr => v = .slice none 0 0 ∧ i = .int .i64 ((0 : Nat) : Int) ∧ wr = w) (fun _ i _ => 0 - (intOf i).toNat)
      case atStart => exact ⟨rfl, rfl, rfl⟩
      case round =>
        obtain ⟨rfl, rfl, rfl⟩ := hrel
        go_wp2
        go_ret
        exact ⟨none, 0, by rw [HV.out]; rfl, by rw [HV.out]; exact Reads.none_, Below.refl _ _⟩
theorem pCount_any (l : List Int) (A : Option Addr) (n c : Nat) (w : World) (hR : Reads w w.heap.size 1 A n (ints l)) (hm : n ≤ maxLen) :
    Calls Tryd.prog 24 #[.slice A n c] w fun e w' => e = .returned (.int .i64 ((blocksL l).length : Int)) ∧ Below w.heap.size w w' := by
  have HC := Lib.hid (pBlocks_any l A n c w hR hm)
  clear hR
  go_enter Tryd.func24, Tryd.ntmps24
  go_wp2_with fail
  refine (HC.out).mono ?_
  rintro e w1 ⟨A1, c1, rfl, hR1, hb⟩
  have HB := Lib.hid hb
  clear hR1 hb
  go_wp2
  go_ret
  exact ⟨rfl, HB.out⟩
end Go.Proofs.YtichhbnpdhfimaaDoor
