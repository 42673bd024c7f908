/- Layer 6: texts joined: Kw Ky Kz Kza Kzb Kzc. -/
import Derived.Test.YtopkmcoblndokaaDoorNVf
import Derived.Test.YtopkmcoblndokaaDoorNVh
/- Layer 5: what a checked list is, and the reference's Sub. -/
namespace Go.Proofs.Ws
open Go
theorem errFrom_all (l : List Nd) : ∀ (m k : Nat), l.length - k ≤ m → errFrom k (l.drop k) = 0 → ∀ j, k ≤ j → j < l.length → nodeErr (l.getD j nd0) (j : Int) = 0 := by
  intro m
  induction m with
  | zero => intro k h _ j h1 h2; omega
  | succ m ih =>
    intro k h he j h1 h2
    have hk : k < l.length := by omega
    rw [List.drop_eq_getElem_cons hk] at he
    have he2 : (if nodeErr l[k] (k : Int) ≠ 0 then nodeErr l[k] (k : Int) else errFrom (k + 1) (l.drop (k + 1))) = 0 := he
    have hg : l.getD k nd0 = l[k] := by simp [hk]
    by_cases hz : nodeErr l[k] (k : Int) = 0
    · rw [if_neg (by simpa using hz)] at he2
      by_cases e : j = k
      · subst e; rw [hg]; exact hz
      · exact ih (k + 1) (by omega) he2 j (by omega) h2
    · rw [if_pos hz] at he2; exact absurd he2 hz
theorem nodeErr_ok {n : Nd} {k : Int} (h : nodeErr n k = 0) : known n.op = true ∧ formOk n k = true ∧ rangeOk n = true := by
  unfold nodeErr at h
  cases h1 : known n.op
  · rw [h1] at h; simp at h
  · cases h2 : formOk n k
    · rw [h1, h2] at h; simp at h
    · cases h3 : rangeOk n
      · rw [h1, h2, h3] at h; simp at h
      · exact ⟨rfl, rfl, rfl⟩
theorem formOk_ops {n : Nd} {k : Nat} (h : formOk n (k : Int) = true) : opsOk n k := by
  unfold formOk at h
  simp only [Bool.and_eq_true] at h
  obtain ⟨⟨⟨⟨hx, hy⟩, _⟩, _⟩, _⟩ := h
  refine ⟨?_, ?_⟩
  · by_cases hu : usesX n.op = true
    · rw [if_pos hu] at hx ⊢
      simp only [Bool.and_eq_true, decide_eq_true_eq] at hx
      exact hx
    · rw [if_neg hu] at hx ⊢
      exact of_decide_eq_true hx
  · by_cases hu : usesY n.op = true
    · rw [if_pos hu] at hy ⊢
      simp only [Bool.and_eq_true, decide_eq_true_eq] at hy
      exact hy
    · rw [if_neg hu] at hy ⊢
      exact of_decide_eq_true hy
theorem fErr_ok {l : List Nd} (h : fErr l = 0) : l ≠ [] ∧ l.length ≤ 200 ∧ ∀ j, j < l.length → nodeErr (l.getD j nd0) (j : Int) = 0 := by
  unfold fErr at h
  split at h
  · cases h
  · split at h
    · cases h
    · rename_i h1 h2
      refine ⟨by intro e; rw [e] at h1; simp at h1, by omega, fun j hj => errFrom_all l l.length 0 (by omega) h j (Nat.zero_le _) hj⟩
theorem fErr_ops {l : List Nd} (h : fErr l = 0) : opsL l := fun i hi => formOk_ops (nodeErr_ok ((fErr_ok h).2.2 i hi)).2.1
end Go.Proofs.Ws
namespace Go.Proofs.YtopkmcoblndokaaDoor
open Go.RowKit Go.Proofs.Ws
theorem Tryd.infoIR : (Tryd.prog.info? 3).map (fun i => (i.zero, i.size, i.bytes)) = some (some (.int .i64 0), 1, 8) := by kernel_rfl
/-- the walk of the reference, while its numbers are laid -/
structure LD (w W : World) (bw k : Nat) : Prop where
  o0 : W.cell? ⟨bw, 0, none⟩ = some (.slice none 0 0)
  f0 : W.frozen? ⟨bw, 0, none⟩ = false
  f1 : W.frozen? ⟨bw, 1, none⟩ = false
  row : ∃ A c, W.cell? ⟨bw, 1, none⟩ = some (.slice A k c) ∧ W.ownsRow (bw + 1) 3 1 (.slice A k c) k (List.replicate k (.int .i64 (-1)))
  lt : bw < W.heap.size
  l0 : w.heap.size ≤ bw
  be : Below w.heap.size w W
theorem LD.start (w w1 : World) (t : TypeId) (hb : Below w.heap.size w w1) : LD w (w1.alloc (.cells #[.slice none 0 0, .slice none 0 0] t)) w1.heap.size 0 := by
  have hh := heap_alloc_new w1 (.cells #[.slice none 0 0, .slice none 0 0] t)
  have hc := Lib.cell_of_heap hh
  exact ⟨hc 0, Lib.frozen_of_heap hh 0, Lib.frozen_of_heap hh 1, ⟨none, 0, hc 1, World.ownsRow_nil _ _ _ _⟩, by simp, hb.size, hb.alloc hb.size _⟩
theorem LD.step {w W w3 : World} {bw k : Nat} {A A' : Option Addr} {c c' : Nat} {o : Obj} (h : LD w W bw k) (hc : W.cell? ⟨bw, 1, none⟩ = some (.slice A k c)) (hlt : ∀ g, (Value.slice A k c).ownBlock = some g → bw + 1 ≤ g)
    (ho : w3.ownsRow (bw + 1) 3 1 (.slice A' (k + 1) c') (k + 1) (List.replicate k (.int .i64 (-1)) ++ [.int .i64 (-1)])) (hg : (W.alloc o).grownBy w3 (Value.slice A k c).ownBlock) :
    LD w (w3.setCell ⟨bw, 1, none⟩ (.slice A' (k + 1) c')) bw (k + 1) := by
  have hlt1 := h.lt
  have l0 := h.l0
  have hsz : (W.alloc o).heap.size = W.heap.size + 1 := by simp
  have hbw : w3.heap[bw]? = W.heap[bw]? := (hg.block bw (by omega) (fun e => by have := hlt bw e.symm; omega)).trans (Below.heap_alloc W o bw hlt1)
  have e := fun j => World.cell?_of_block (a := ⟨bw, j, none⟩) hbw
  have ef := fun j => World.frozen?_of_block (a := ⟨bw, j, none⟩) hbw
  have hrep : List.replicate (k + 1) (Value.int .i64 (-1)) = List.replicate k (.int .i64 (-1)) ++ [.int .i64 (-1)] := List.replicate_succ'
  refine ⟨?_, ?_, ?_, ⟨A', c', World.cell?_setCell_same w3 _ _ ((e 1).trans hc), ?_⟩, ?_, l0, ?_⟩
  · rw [World.cell?_setCell_other w3 ⟨bw, 1, none⟩ ⟨bw, 0, none⟩ _ (by simp)]; exact (e 0).trans h.o0
  · rw [World.frozen?_setCell]; exact (ef 0).trans h.f0
  · rw [World.frozen?_setCell]; exact (ef 1).trans h.f1
  · rw [hrep]; exact ownsRow_setCell_below ho (by show bw < bw + 1; omega) _
  · have := hg.size; simp; omega
  · have hb : Below w.heap.size w w3 := (h.be.alloc h.be.size o).grown hg (by have := h.be.size; omega) (fun g hg2 => by have := hlt g hg2; omega)
    exact hb.setCell (by show w.heap.size ≤ bw; exact l0) _
end Go.Proofs.YtopkmcoblndokaaDoor
/- Layer 5: Compact, Sub, Size on both sides, Equal. -/
namespace Go.Proofs.YtopkmcoblndokaaDoor
open Go.RowKit Go.Proofs.Ws Go.Maps
set_option maxRecDepth 100000
theorem NdR_of {n : Nd} {k : Int} (h : nodeErr n k = 0) : NdR n := by
  obtain ⟨h1, h2, h3⟩ := nodeErr_ok h
  have hop : 1 ≤ n.op ∧ n.op ≤ 21 := by
    unfold known at h1
    simp only [Bool.and_eq_true, decide_eq_true_eq] at h1
    exact h1
  unfold formOk at h2
  unfold rangeOk shN shE shG at h3
  simp only [Bool.and_eq_true, Bool.or_eq_true, decide_eq_true_eq, beq_iff_eq] at h2 h3
  obtain ⟨⟨⟨⟨_, _⟩, hi⟩, he⟩, hg⟩ := h2
  obtain ⟨⟨ri, re⟩, rg⟩ := h3
  refine ⟨by omega, ?_, ?_, ?_⟩
  · by_cases a : n.op = 3
    · rw [if_pos a] at ri; omega
    · rw [if_neg a] at ri
      by_cases b : hasAgent n.op = true
      · rw [if_pos b] at ri; omega
      · rw [if_neg b] at ri
        by_cases c : n.op = 17
        · rw [if_pos c] at ri; omega
        · rcases hi with ((h | h) | h) | h
          · exact absurd h a
          · exact absurd h b
          · exact absurd h c
          · omega
  · by_cases c : n.op = 17
    · rw [if_pos c] at re; omega
    · rcases he with h | h
      · exact absurd h c
      · omega
  · by_cases c : hasGroup n.op = true
    · rw [if_pos c] at rg; omega
    · rcases hg with h | h
      · exact absurd h c
      · omega
theorem OkL_of {f : List Nd} (h : fErr f = 0) : OkL f := ⟨(fErr_ok h).1, fErr_ops h, fun i hi => NdR_of ((fErr_ok h).2.2 i hi)⟩
theorem OkL.take {f : List Nd} (h : OkL f) {i : Nat} (hi : i < f.length) : OkL (f.take (i + 1)) := by
  have hl : (f.take (i + 1)).length = i + 1 := by rw [List.length_take]; omega
  refine ⟨by intro e; rw [e] at hl; simp at hl, opsL_take h.ops _, fun j hj => ?_⟩
  rw [take_getD (by omega)]
  exact h.rng j (by omega)
set_option maxRecDepth 100000 in
theorem pCompact_own (f : List Nd) (A : Option Addr) (n c : Nat) (w : World) (hR : Reads w w.heap.size 6 A n (nds f)) (hm : n ≤ maxLen) :
    Calls Tryd.prog 21 #[.slice A n c] w fun e w' => ∃ A' c', e = .returned (.slice A' (compF f).length c') ∧ w'.ownsRow w.heap.size 55 6 (.slice A' (compF f).length c') (compF f).length (nds (compF f)) ∧ Below w.heap.size w w' := by
  have hl := hR.nd_len
  have HV := Lib.hid (pValid_any f A n c w hR hm)
  have HR := Lib.hid hR
  by_cases hz : fErr f = 0
  · have h200 := (fErr_ok hz).2.1
    have HC : Hid (∀ W, Reads W W.heap.size 6 A n (nds f) → Calls Tryd.prog 45 #[.slice A n c] W fun e w' => ∃ A' c', e = .returned (.slice A' (canonF f).length c') ∧ w'.ownsRow W.heap.size 55 6 (.slice A' (canonF f).length c') (canonF f).length (nds (canonF f)) ∧ Below W.heap.size W w') :=
      Lib.hid (fun W h => pCanon_own f (OkL_of hz) A n c W h (by omega))
    have e1 : compF f = canonF f := by unfold compF; rw [if_pos hz]
    rw [e1]
    rw [hz] at HV
    generalize canonF f = q at *
    clear hR hl hz h200 e1
    go_enter Tryd.func21, Tryd.ntmps21
    go_wp2_with fail
    refine (HV.out).mono ?_
    rintro e w1 ⟨rfl, hb⟩
    have HB := Lib.hid hb
    have hR1 := (HR.out.below hb).more hb.size
    clear hb
    go_wp2_with fail
    refine (HC.out w1 hR1).mono ?_
    rintro e w2 ⟨A', c', rfl, hR2, hb2⟩
    have HR2 := Lib.hid (own_base hR2 HB.out.size)
    have HB2 := Lib.hid (HB.out.trans (hb2.mono HB.out.size))
    clear hR2 hb2 hR1
    go_wp2
    go_ret
    exact ⟨A', c', rfl, HR2.out, HB2.out⟩
  · have e1 : compF f = [] := by unfold compF; rw [if_neg hz]
    have hzb : (fErr f == 0) = false := by simpa using hz
    rw [e1]
    rw [hzb] at HV
    clear hR hl hz e1 hzb
    go_enter Tryd.func21, Tryd.ntmps21
    go_wp2_with fail
    refine (HV.out).mono ?_
    rintro e w1 ⟨rfl, hb⟩
    have HB := Lib.hid hb
    clear hb
    go_wp2
    go_ret
    exact ⟨none, 0, rfl, World.ownsRow_nil _ _ _ _, HB.out⟩
theorem pCompact_any (f : List Nd) (A : Option Addr) (n c : Nat) (w : World) (hR : Reads w w.heap.size 6 A n (nds f)) (hm : n ≤ maxLen) :
    Calls Tryd.prog 21 #[.slice A n c] w fun e w' => ∃ A' c', e = .returned (.slice A' (compF f).length c') ∧ Reads w' w'.heap.size 6 A' (compF f).length (nds (compF f)) ∧ Below w.heap.size w w' :=
  (pCompact_own f A n c w hR hm).mono (by
    rintro e w' ⟨A', c', rfl, h1, h2⟩
    exact ⟨A', c', rfl, Reads.of_own h1, h2⟩)
end Go.Proofs.YtopkmcoblndokaaDoor
/- Layer 5: cmp of integers, of nodes, of lists, by the program. -/
namespace Go.Proofs.Ws
open Go
def cmpI (a b : Int) : Int := if a < b then -1 else if b < a then 1 else 0
def firstNZ : List Int → Int
  | [] => 0
  | x :: l => if x ≠ 0 then x else firstNZ l
theorem firstNZ_at (l : List Int) (k : Nat) (h : k < l.length) : firstNZ (l.drop k) = if l.getD k 0 ≠ 0 then l.getD k 0 else firstNZ (l.drop (k + 1)) := by
  rw [List.drop_eq_getElem_cons h, show l.getD k 0 = l[k] from by simp [h]]
  rfl
end Go.Proofs.Ws
namespace Go.Proofs.YtopkmcoblndokaaDoor
open Go.RowKit Go.Proofs.Ws Go.Maps
set_option maxRecDepth 100000
theorem finW_out_le {f : List Nd} (hf : opsL f) (i : Nat) (hi : i < f.length) : (canT (treeAt f i)).length ≤ f.length := by
  obtain ⟨h1, h2, _⟩ := finW_cnt hf (i + 1) i ⟨[], List.replicate f.length none⟩ (by omega) hi (by simp) (cnt0 f.length)
  rw [← walk_tree hf (Nat.lt_succ_self i) hi]
  exact h1.le h2
theorem compF_le (f : List Nd) : (compF f).length ≤ f.length := by
  unfold compF
  split
  · rename_i h
    have hne : f.length ≠ 0 := by simpa using (fErr_ok h).1
    rw [canonF_tree (fErr_ops h) (fErr_ok h).1]
    exact finW_out_le (fErr_ops h) _ (by omega)
  · exact Nat.zero_le _
def is (l : List Int) : List Value := l.map (Value.int .i64)
theorem is_length (l : List Int) : (is l).length = l.length := by simp [is]
theorem Reads.is_len {w : World} {B n : Nat} {A : Option Addr} {l : List Int} (h : Reads w B 1 A n (is l)) : l.length = n := by have := h.1; rw [is_length] at this; omega
theorem Reads.is_at {w : World} {B n : Nat} {A : Option Addr} {l : List Int} (h : Reads w B 1 A n (is l)) {k : Nat} (hk : k < n) : ∃ ad, A = some ad ∧ ad.block < B ∧ w.cell? (ad.add k) = some (.int .i64 (l.getD k 0)) := by
  have hl := h.is_len
  obtain ⟨ad, hA, hb, hc⟩ := h.2 (by omega)
  refine ⟨ad, hA, hb, hc k _ ?_⟩
  have : k < l.length := by omega
  simp [is, this]
theorem isNaN_any (a : Int) (w : World) : Calls Tryd.prog 85 #[.int .i64 a] w fun e w' => e = .returned (.bool false) ∧ w = w' := by
  have h : (a != a) = false := by simp
  go_enter Tryd.func85, Tryd.ntmps85
  go_wp2
  go_ret
  exact ⟨by simp, rfl⟩
theorem cmpInt_any (a b : Int) (w : World) : Calls Tryd.prog 61 #[.int .i64 a, .int .i64 b] w fun e w' => e = .returned (.int .i64 (cmpI a b)) ∧ w = w' := by
  have H1 := Lib.hid (fun W => isNaN_any a W)
  have H2 := Lib.hid (fun W => isNaN_any b W)
  rcases Int.lt_trichotomy a b with h | h | h
  · have e : cmpI a b = -1 := by unfold cmpI; rw [if_pos h]
    rw [e]
    have d1 : decide (a < b) = true := decide_eq_true h
    clear h e
    go_enter Tryd.func61, Tryd.ntmps61
    go_wp2_with fail
    refine (H1.out _).mono ?_
    rintro e w1 ⟨rfl, rfl⟩
    go_wp2_with fail
    refine (H2.out _).mono ?_
    rintro e w1 ⟨rfl, rfl⟩
    go_wp2
    go_ret
    exact ⟨rfl, rfl⟩
  · subst h
    have e : cmpI a a = 0 := by unfold cmpI; rw [if_neg (by omega), if_neg (by omega)]
    rw [e]
    have d1 : decide (a < a) = false := decide_eq_false (by omega)
    clear e
    go_enter Tryd.func61, Tryd.ntmps61
    go_wp2_with fail
    refine (H1.out _).mono ?_
    rintro e w1 ⟨rfl, rfl⟩
    go_wp2_with fail
    refine (H2.out _).mono ?_
    rintro e w1 ⟨rfl, rfl⟩
    go_wp2
    go_ret
    exact ⟨rfl, rfl⟩
  · have e : cmpI a b = 1 := by unfold cmpI; rw [if_neg (by omega), if_pos h]
    rw [e]
    have d1 : decide (a < b) = false := decide_eq_false (by omega)
    have d2 : decide (b < a) = true := decide_eq_true h
    clear h e
    go_enter Tryd.func61, Tryd.ntmps61
    go_wp2_with fail
    refine (H1.out _).mono ?_
    rintro e w1 ⟨rfl, rfl⟩
    go_wp2_with fail
    refine (H2.out _).mono ?_
    rintro e w1 ⟨rfl, rfl⟩
    go_wp2
    go_ret
    exact ⟨rfl, rfl⟩
theorem or_any (l : List Int) (A : Option Addr) (n c : Nat) (w : World) (hR : Reads w w.heap.size 1 A n (is l)) (hm : n ≤ maxLen) :
    Calls Tryd.prog 60 #[.slice A n c] w fun e w' => e = .returned (.int .i64 (firstNZ l)) ∧ w = w' := by
  unfold maxLen at hm
  have HL := Lib.hid hR.is_len
  have HR := Lib.hid hR
  clear hR
  go_enter Tryd.func60, Tryd.ntmps60
  go_wp2
  go_loopw [5, 8] (fun u i wr => ∃ k : Nat, k ≤ n ∧ i = .int .i64 k ∧ Hid (firstNZ l = firstNZ (l.drop k)) ∧ wr = w) (fun _ i _ => n - (intOf i).toNat)
  case atStart => exact ⟨0, Nat.zero_le _, rfl, Lib.hid rfl, rfl⟩
  case round =>
    obtain ⟨k, hk, rfl, HI, rfl⟩ := hrel
    by_cases hlt : k < n
    · obtain ⟨ad, rfl, _, hc⟩ := HR.out.is_at hlt
      have HA := Lib.hid (firstNZ_at l k (by have := HL.out; omega))
      generalize l.getD k 0 = z at *
      by_cases hz : z = 0
      · subst hz
        have HI2 := Lib.hid (HI.out.trans (HA.out.trans (if_neg (by simp))))
        clear HI HA
        go_wp2
        go_roundw
        case rel => exact ⟨k + 1, by omega, by go_num, HI2, by first | rfl | trivial⟩
        case measure => simp [intOf]; omega
      · have HI2 := Lib.hid (HI.out.trans (HA.out.trans (if_pos hz)))
        have hz1 : (z != 0) = true := by simpa using hz
        clear HI HA hz
        go_wp2
        go_ret
        exact ⟨ret_i64 HI2.out.symm, rfl⟩
    · have HI2 : Hid (firstNZ l = 0) := Lib.hid (by rw [HI.out, List.drop_of_length_le (by have := HL.out; omega)]; rfl)
      clear HI
      go_wp2
      go_ret
      exact ⟨ret_i64 HI2.out.symm, rfl⟩
end Go.Proofs.YtopkmcoblndokaaDoor
/- Layer 5: two nodes compared by the program. -/
namespace Go.Proofs.YtopkmcoblndokaaDoor
open Go.RowKit Go.Proofs.Ws Go.Maps
set_option maxRecDepth 100000
end Go.Proofs.YtopkmcoblndokaaDoor
/- Layer 5: Same and Compare of the program. -/
namespace Go.Proofs.YtopkmcoblndokaaDoor
open Go.RowKit Go.Proofs.Ws Go.Maps
set_option maxRecDepth 100000
end Go.Proofs.YtopkmcoblndokaaDoor
/- Layer 5: Same and Compare of the reference. -/
namespace Go.Proofs.Ws
open Go
end Go.Proofs.Ws
namespace Go.Proofs.YtopkmcoblndokaaDoor
open Go.RowKit Go.Proofs.Ws Go.Maps
set_option maxRecDepth 100000
end Go.Proofs.YtopkmcoblndokaaDoor
