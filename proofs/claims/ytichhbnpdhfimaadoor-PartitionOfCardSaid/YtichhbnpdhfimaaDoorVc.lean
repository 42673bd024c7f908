/- Layer 3: the partition of a relation, by the program, for any list of words. -/
import Derived.Test.YtichhbnpdhfimaaDoorVb
namespace Go.Proofs.YtichhbnpdhfimaaDoor
open Go.RowKit Go.Proofs.Ws
def tzV (x : Nat) : Nat := if x = 0 then 64 else low x
theorem tz_zero (w : World) : Calls Tryd.prog 57 #[.int .u64 (0 : Nat)] w fun e w' => e = .returned (.int .i64 64) ∧ w = w' := by
  go_enter Tryd.func57, Tryd.ntmps57
  go_wp2
  go_ret
  exact ⟨rfl, rfl⟩
theorem tz_all (x : Nat) (w : World) (hx : x < 18446744073709551616) (hT : Tab w) :
    Calls Tryd.prog 57 #[.int .u64 x] w fun e w' => e = .returned (.int .i64 (tzV x : Int)) ∧ w = w' := by
  unfold tzV
  by_cases h0 : x = 0
  · subst h0
    rw [if_pos rfl]
    exact tz_zero w
  · rw [if_neg h0]
    exact tz_any x w hx h0 hT
def zL (r : List Nat) (n k : Nat) : List Int := (List.range n).map (fun i => if i < k then (tzV (r.getD i 0) : Int) else 0)
theorem zL_length (r : List Nat) (n k : Nat) : (zL r n k).length = n := by simp [zL]
theorem zL_zero (r : List Nat) (n : Nat) : zL r n 0 = List.replicate n 0 := by
  apply List.ext_getElem
  · simp [zL]
  · intro i h1 h2; simp [zL]
theorem zL_set (r : List Nat) (n k : Nat) : (zL r n k).set k (tzV (r.getD k 0) : Int) = zL r n (k + 1) := by
  apply List.ext_getElem
  · simp [zL]
  · intro i h1 h2
    rw [List.getElem_set]
    simp only [zL, List.getElem_map, List.getElem_range]
    split
    · rename_i e; subst e; rw [if_pos (by omega)]
    · rename_i e
      by_cases h : i < k
      · rw [if_pos h, if_pos (by omega)]
      · rw [if_neg h, if_neg (by omega)]
theorem zL_get (r : List Nat) {n k : Nat} (h : k < n) : (zL r n n).getD k 0 = (tzV (r.getD k 0) : Int) := by
  unfold zL
  rw [List.getD_eq_getElem?_getD, List.getElem?_map, List.getElem?_range h]
  simp only [Option.map_some, Option.getD_some]
  rw [if_pos h]
/-- the partition of a relation, or what is wrong -/
def ofV (r : List Nat) : List Int × Int :=
  if 64 < r.length then ([], 8)
  else if r.any (fun x => decide (r.length < Lib.bitLen x)) = true then ([], 3)
  else if partErr (zL r r.length r.length) = 0 ∧ relL (zL r r.length r.length) = r then (zL r r.length r.length, 0) else ([], 12)
theorem of_big {r : List Nat} (h : 64 < r.length) : ofV r = ([], 8) := by unfold ofV; rw [if_pos h]
theorem of_form {r : List Nat} (h : r.length ≤ 64) {k : Nat} (hk : k < r.length) (hb : r.length < Lib.bitLen (r.getD k 0)) : ofV r = ([], 3) := by
  unfold ofV
  rw [if_neg (by omega), if_pos]
  rw [List.any_eq_true]
  refine ⟨r.getD k 0, ?_, by simpa using hb⟩
  rw [List.getD_eq_getElem?_getD, List.getElem?_eq_getElem hk]
  exact List.getElem_mem hk
theorem any_no {r : List Nat} (hf : ∀ k, k < r.length → Lib.bitLen (r.getD k 0) ≤ r.length) : ¬ r.any (fun x => decide (r.length < Lib.bitLen x)) = true := by
  rw [List.any_eq_true]
  rintro ⟨x, hx, hd⟩
  obtain ⟨k, hk, rfl⟩ := List.mem_iff_getElem.1 hx
  have := hf k hk
  rw [List.getD_eq_getElem?_getD, List.getElem?_eq_getElem hk] at this
  simp at hd this
  omega
theorem of_yes {r : List Nat} (h : r.length ≤ 64) (hf : ∀ k, k < r.length → Lib.bitLen (r.getD k 0) ≤ r.length) (h1 : partErr (zL r r.length r.length) = 0) (h2 : relL (zL r r.length r.length) = r) : ofV r = (zL r r.length r.length, 0) := by
  unfold ofV
  rw [if_neg (by omega), if_neg (any_no hf), if_pos ⟨h1, h2⟩]
theorem of_no {r : List Nat} (h : r.length ≤ 64) (hf : ∀ k, k < r.length → Lib.bitLen (r.getD k 0) ≤ r.length) (h1 : ¬ (partErr (zL r r.length r.length) = 0 ∧ relL (zL r r.length r.length) = r)) : ofV r = ([], 12) := by
  unfold ofV
  rw [if_neg (by omega), if_neg (any_no hf), if_neg h1]
theorem GO.of {p : List Int × Int} {q : List Int} {E : Int} {w w' : World} {e : Ending} (h : p = (q, E)) (g : GO q E w e w') : GO p.1 p.2 w e w' := by rw [h]; exact g
theorem GO_noneB {E : Int} {w w' : World} (hb : Below w.heap.size w w') : GO [] E w (.returned (.tuple #[.slice none 0 0, .int .i64 E])) w' := ⟨none, 0, rfl, Reads.none_, hb⟩
set_option maxRecDepth 100000 in
set_option maxHeartbeats 4000000 in
theorem of_any (r : List Nat) (A : Option Addr) (n c : Nat) (w : World) (hR : Reads w w.heap.size 1 A n (us r)) (hW : Words r) (hm : n ≤ maxLen) (hT : Tab w) :
    Calls Tryd.prog 13 #[.slice A n c] w (GO (ofV r).1 (ofV r).2 w) := by
  have hrl := hR.word_len
  unfold maxLen at hm
  by_cases h64 : n ≤ 64
  · have HR := Lib.hid hR
    have HT := Lib.hid hT
    have HRL := Lib.hid hrl
    have HWD := Lib.hid hW
    have hmk := fun W => makeI W n (by omega)
    have HI0 : Hid (HoldsI (w.alloc (.cells (ints (List.replicate n 0)).toArray 3)) w.heap.size (zL r n 0) ∧ Below w.heap.size w (w.alloc (.cells (ints (List.replicate n 0)).toArray 3))) := Lib.hid ⟨by
        rw [zL_zero]
        exact HoldsI.made w (List.replicate n 0), (Below.refl _ w).alloc (Nat.le_refl _) _⟩
    clear hR hT hrl hW
    have hdm : decide ((64 : Int) < (n : Int)) = false := by simp; omega
    go_enter Tryd.func13, Tryd.ntmps13
    go_wp2
    generalize w.alloc (.cells (ints (List.replicate n 0)).toArray 3) = wx at *
    clear hmk
    go_loopw [15] (fun i wr => ∃ k : Nat, k ≤ n ∧ i = .int .i64 k ∧ Hid (HoldsI wr w.heap.size (zL r n k) ∧ Below w.heap.size w wr ∧ ∀ j, j < k → Lib.bitLen (r.getD j 0) ≤ n)) (fun i _ => n - (intOf i).toNat)
    case atStart => exact ⟨0, Nat.zero_le _, rfl, Lib.hid ⟨HI0.out.1, HI0.out.2, fun j hj => absurd hj (by omega)⟩⟩
    case round =>
      clear HI0
      obtain ⟨k, hk, rfl, HI⟩ := hrel
      by_cases hlt : k < n
      · obtain ⟨ad, rfl, _, hc⟩ := (HR.out.below HI.out.2.1).word_k hlt
        have hxw : r.getD k 0 < 18446744073709551616 := words_getD HWD.out k
        have HLN := Lib.hid (len_any (r.getD k 0) wr hxw)
        by_cases hbl : n < Lib.bitLen (r.getD k 0)
        · have HE := Lib.hid (of_form (r := r) (by rw [HRL.out]; exact h64) (k := k) (by rw [HRL.out]; exact hlt) (by rw [HRL.out]; exact hbl))
          have hd1 : decide ((n : Int) < (Lib.bitLen (r.getD k 0) : Int)) = true := decide_eq_true (by omega)
          have hd2 : decide (n < Lib.bitLen (r.getD k 0)) = true := decide_eq_true hbl
          have HB := Lib.hid HI.out.2.1
          generalize r.getD k 0 = x at *
          generalize Lib.bitLen x = bl at *
          clear hbl HI
          go_wp2_with fail
          refine (HLN.out).mono ?_
          rintro e w' ⟨rfl, rfl⟩
          go_wp2
          go_ret2
          exact GO.of HE.out (GO_noneB HB.out)
        · have HZ := Lib.hid (tz_all (r.getD k 0) wr hxw (HT.out.below HI.out.2.1))
          have hqlen : (zL r n k).length = n := zL_length r n k
          have hcq : wr.cell? ⟨w.heap.size, k, none⟩ = some (.int .i64 ((zL r n k).getD k 0)) := HI.out.1.cell k (by omega)
          have hfq : wr.frozen? ⟨w.heap.size, k, none⟩ = false := HI.out.1.free k
          have HN : Hid (HoldsI (wr.setCell ⟨w.heap.size, k, none⟩ (.int .i64 (tzV (r.getD k 0) : Int))) w.heap.size (zL r n (k + 1)) ∧ Below w.heap.size w (wr.setCell ⟨w.heap.size, k, none⟩ (.int .i64 (tzV (r.getD k 0) : Int))) ∧ ∀ j, j < k + 1 → Lib.bitLen (r.getD j 0) ≤ n) := Lib.hid ⟨by
            have := HI.out.1.put k (tzV (r.getD k 0) : Int)
            rw [zL_set r n k] at this
            exact this, HI.out.2.1.setCell (p := ⟨w.heap.size, k, none⟩) (Nat.le_refl _) _, fun j hj => by
              by_cases e : j = k
              · subst e; omega
              · exact HI.out.2.2 j (by omega)⟩
          have hd1 : decide ((n : Int) < (Lib.bitLen (r.getD k 0) : Int)) = false := decide_eq_false (by omega)
          have hd2 : decide (n < Lib.bitLen (r.getD k 0)) = false := decide_eq_false hbl
          clear HI hqlen hbl
          generalize (zL r n k).getD k 0 = old at *
          generalize r.getD k 0 = x at *
          generalize tzV x = f at *
          generalize Lib.bitLen x = bl at *
          go_wp2_with fail
          refine (HLN.out).mono ?_
          rintro e w' ⟨rfl, rfl⟩
          go_wp2_with fail
          refine (HZ.out).mono ?_
          rintro e w' ⟨rfl, rfl⟩
          go_wp2
          go_roundw
          case rel => exact ⟨k + 1, by omega, by go_num, HN⟩
          case measure => simp [intOf]; omega
      · have hkn : n = k := by omega
        subst hkn
        have hpr := HI.out.1.reads
        rw [zL_length] at hpr
        have HQ := Lib.hid (pRelation_any (zL r n n) (some ⟨w.heap.size, 0, none⟩) n n wr hpr (by unfold maxLen; omega))
        have HPR := Lib.hid hpr
        have HBW := Lib.hid HI.out.2.1
        have HYES := Lib.hid (of_yes (r := r) (by rw [HRL.out]; exact h64) (by rw [HRL.out]; exact HI.out.2.2))
        have HNO := Lib.hid (of_no (r := r) (by rw [HRL.out]; exact h64) (by rw [HRL.out]; exact HI.out.2.2))
        rw [HRL.out] at HYES HNO
        clear hpr HI
        go_wp2_with fail
        refine (HQ.out).mono ?_
        rintro e w1 (⟨h0, A1, c1, rfl, hr1, hb⟩ | ⟨h0, rfl, rfl⟩)
        · clear HQ
          have HE := Lib.hid (toB_drew (equal_any (relL (zL r n n)) r A1 A (relL (zL r n n)).length n c1 c _ w1 hr1 (HR.out.step (HBW.out.trans (hb.mono HBW.out.size))) (by unfold maxLen; rw [relL_length, zL_length]; omega) (by unfold maxLen; omega)))
          replace HPR := Lib.hid (HPR.out.step hb)
          have HB := Lib.hid (HBW.out.trans (hb.mono HBW.out.size))
          clear hr1 hb
          by_cases heq : relL (zL r n n) = r
          · have HF := Lib.hid (HYES.out h0 heq)
            rw [decide_eq_true heq] at HE
            clear heq
            go_wp2_with fail
            refine (HE.out).mono ?_
            rintro e w2 ⟨rfl, hb⟩
            clear HE
            replace HPR := Lib.hid (HPR.out.step hb)
            replace HB := Lib.hid (HB.out.trans (hb.mono HB.out.size))
            clear hb
            go_wp2
            go_ret2
            refine GO.of HF.out ⟨some ⟨w.heap.size, 0, none⟩, n, ?_, by rw [zL_length]; exact HPR.out, HB.out⟩
            rw [zL_length]
            rfl
          · have HF := Lib.hid (HNO.out (fun h => heq h.2))
            rw [decide_eq_false heq] at HE
            clear heq
            go_wp2_with fail
            refine (HE.out).mono ?_
            rintro e w2 ⟨rfl, hb⟩
            clear HE
            replace HB := Lib.hid (HB.out.trans (hb.mono HB.out.size))
            clear hb
            go_wp2
            go_ret2
            exact GO.of HF.out (GO_noneB HB.out)
        · have HF := Lib.hid (HNO.out (fun h => h0 h.1))
          have hn0 : n ≠ 0 := by
            intro e
            subst e
            exact h0 rfl
          have HE := Lib.hid (toB_drew (equal_any [] r none A 0 n 0 c _ wr Reads.none_ (HR.out.step HBW.out) (by unfold maxLen; omega) (by unfold maxLen; omega)))
          rw [decide_eq_false (show ¬ ([] = r) by intro e; have := HRL.out; rw [← e] at this; simp at this; omega)] at HE
          clear hn0 h0
          go_wp2_with fail
          refine (HE.out).mono ?_
          rintro e w2 ⟨rfl, hb⟩
          clear HE
          have HB := Lib.hid (HBW.out.trans (hb.mono HBW.out.size))
          clear hb
          go_wp2
          go_ret2
          exact GO.of HF.out (GO_noneB HB.out)
  · have HE := Lib.hid (of_big (r := r) (by omega))
    have hdm : decide ((64 : Int) < (n : Int)) = true := by simp; omega
    clear h64 hrl
    go_enter Tryd.func13, Tryd.ntmps13
    go_wp2
    go_ret2
    exact GO.of HE.out GO_none
end Go.Proofs.YtichhbnpdhfimaaDoor
