/- Layer 6: texts joined: Ky Kz Kza Kzb Kzc Ma. -/
import Derived.Test.YtjpmhbnikoggaaaGreatDoorNJg
import Derived.Test.YtjpmhbnikoggaaaGreatDoorNJh
/- Layer 5: Compact, Sub, Size on both sides, Equal. -/
namespace Go.Proofs.YtjpmhbnikoggaaaGreatDoor
open Go.RowKit Go.Proofs.Ws Go.Maps
theorem NdR_of {n : Nd} {k : Int} (h : nodeErr n k = 0) : NdR n := by
  obtain ⟨h1, h2, h3⟩ := nodeErr_ok h
  have hop : 1 ≤ n.op ∧ n.op ≤ 21 := by
    unfold known at h1
    simp only [Bool.and_eq_true, decide_eq_true_eq] at h1
    exact h1
  unfold formOk at h2
  unfold rangeOk shN shE shG at h3
  simp only [Bool.and_eq_true, Bool.or_eq_true, decide_eq_true_eq, beq_iff_eq] at h2 h3
  obtain ⟨⟨⟨⟨_, _⟩, hi⟩, he⟩, hg⟩ := h2
  obtain ⟨⟨ri, re⟩, rg⟩ := h3
  refine ⟨by omega, ?_, ?_, ?_⟩
  · by_cases a : n.op = 3
    · rw [if_pos a] at ri; omega
    · rw [if_neg a] at ri
      by_cases b : hasAgent n.op = true
      · rw [if_pos b] at ri; omega
      · rw [if_neg b] at ri
        by_cases c : n.op = 17
        · rw [if_pos c] at ri; omega
        · rcases hi with ((h | h) | h) | h
          · exact absurd h a
          · exact absurd h b
          · exact absurd h c
          · omega
  · by_cases c : n.op = 17
    · rw [if_pos c] at re; omega
    · rcases he with h | h
      · exact absurd h c
      · omega
  · by_cases c : hasGroup n.op = true
    · rw [if_pos c] at rg; omega
    · rcases hg with h | h
      · exact absurd h c
      · omega
theorem OkL.take {f : List Nd} (h : OkL f) {i : Nat} (hi : i < f.length) : OkL (f.take (i + 1)) := by
  have hl : (f.take (i + 1)).length = i + 1 := by rw [List.length_take]; omega
  refine ⟨by intro e; rw [e] at hl; simp at hl, opsL_take h.ops _, fun j hj => ?_⟩
  rw [take_getD (by omega)]
  exact h.rng j (by omega)
theorem rCompact_own (f : List Nd) (A : Option Addr) (n c : Nat) (w : World) (hR : Reads w w.heap.size 6 A n (nds f)) (hm : n ≤ maxLen) :
    Calls Tryz.prog 48 #[.slice A n c] w fun e w' => ∃ A' c', e = .returned (.slice A' (compF f).length c') ∧ w'.ownsRow w.heap.size 79 6 (.slice A' (compF f).length c') (compF f).length (nds (compF f)) ∧ Below w.heap.size w w' := by
  have hl := hR.nd_len
  unfold maxLen at hm
  have HC := Lib.hid (rSub_own f ((n : Int) - 1) A n c w hR (by unfold maxLen; omega))
  have e1 : subF f ((n : Int) - 1) = compF f := by rw [← subF_last, hl]
  rw [e1] at HC
  generalize compF f = q at *
  clear hR hl e1
  go_enter Tryz.func48, Tryz.ntmps48
  go_wp2_with fail
  refine (HC.out).mono ?_
  rintro e w2 ⟨A', c', rfl, hR2, hb2⟩
  have HR2 := Lib.hid hR2
  have HB2 := Lib.hid hb2
  clear hR2 hb2
  go_wp2
  go_ret
  exact ⟨A', c', rfl, HR2.out, HB2.out⟩
theorem rCompact_any (f : List Nd) (A : Option Addr) (n c : Nat) (w : World) (hR : Reads w w.heap.size 6 A n (nds f)) (hm : n ≤ maxLen) :
    Calls Tryz.prog 48 #[.slice A n c] w fun e w' => ∃ A' c', e = .returned (.slice A' (compF f).length c') ∧ Reads w' w'.heap.size 6 A' (compF f).length (nds (compF f)) ∧ Below w.heap.size w w' :=
  (rCompact_own f A n c w hR hm).mono (by
    rintro e w' ⟨A', c', rfl, h1, h2⟩
    exact ⟨A', c', rfl, Reads.of_own h1, h2⟩)
theorem neqRun (a b : Nd) (w : World) : (binOp .neq 79 (.agg #[.int .i64 a.op, .int .i64 a.i, .int .i64 a.e, .int .i64 a.g, .int .i64 a.x, .int .i64 a.y]) (.agg #[.int .i64 b.op, .int .i64 b.i, .int .i64 b.e, .int .i64 b.g, .int .i64 b.x, .int .i64 b.y])).run Tryz.prog w = .ok (.bool (!eqN a b)) w := by
  rw [run_neq_struct, Tryz.eqNode]
  rfl
theorem list_eq_at {a b : List Nd} (hl : a.length = b.length) (h : ∀ j, j < a.length → a.getD j nd0 = b.getD j nd0) : a = b := by
  apply List.ext_getElem hl
  intro j h1 h2
  have := h j h1
  simp [h1, h2] at this
  exact this
set_option maxRecDepth 100000 in
set_option maxHeartbeats 4000000 in
theorem rEqual_any (a b : List Nd) (A A2 : Option Addr) (n m c c2 : Nat) (w : World) (hR : Reads w w.heap.size 6 A n (nds a)) (hR2 : Reads w w.heap.size 6 A2 m (nds b)) (hm : n ≤ maxLen) (hm2 : m ≤ maxLen) :
    Calls Tryz.prog 19 #[.slice A n c, .slice A2 m c2] w fun e w' => e = .returned (.bool (decide (a = b))) ∧ Below w.heap.size w w' := by
  have hl := hR.nd_len
  have hl2 := hR2.nd_len
  have HL := Lib.hid hl
  have HL2 := Lib.hid hl2
  have HR := Lib.hid hR
  have HR2 := Lib.hid hR2
  unfold maxLen at hm hm2
  by_cases hnm : n = m
  · subst hnm
    have hne : ((n : Int) != (n : Int)) = false := by simp
    clear hR hR2 hl hl2
    go_enter Tryz.func19, Tryz.ntmps19
    go_wp2
    go_loopw [5] (fun i wr => ∃ k : Nat, k ≤ n ∧ i = .int .i64 k ∧ Hid (∀ j, j < k → a.getD j nd0 = b.getD j nd0) ∧ Hid (Below w.heap.size w wr)) (fun i _ => n - (intOf i).toNat)
    case atStart => exact ⟨0, Nat.zero_le _, rfl, Lib.hid (fun j hj => absurd hj (by omega)), Lib.hid (Below.refl _ _)⟩
    case round =>
      obtain ⟨k, hk, rfl, HF, HB⟩ := hrel
      by_cases hlt : k < n
      · obtain ⟨ad, rfl, hb, m0, m1, m2, m3, m4, m5⟩ := (HR.out.below HB.out).nd_at hlt
        obtain ⟨ad2, rfl, hb2, q0, q1, q2, q3, q4, q5⟩ := (HR2.out.below HB.out).nd_at hlt
        obtain ⟨x, hx⟩ : ∃ x, a.getD k nd0 = x := ⟨_, rfl⟩
        obtain ⟨y, hy⟩ : ∃ y, b.getD k nd0 = y := ⟨_, rfl⟩
        rw [hx] at m0 m1 m2 m3 m4 m5
        rw [hy] at q0 q1 q2 q3 q4 q5
        have HX := Lib.hid hx
        have HY := Lib.hid hy
        clear hx hy
        have l1 := add_cell m1
        have l2 := add_cell m2
        have l3 := add_cell m3
        have l4 := add_cell m4
        have l5 := add_cell m5
        have r1 := add_cell q1
        have r2 := add_cell q2
        have r3 := add_cell q3
        have r4 := add_cell q4
        have r5 := add_cell q5
        by_cases he : x = y
        · have HF2 := Lib.hid (fun j (hj : j < k + 1) => show a.getD j nd0 = b.getD j nd0 from by
            by_cases e : j = k
            · subst e; rw [HX.out, HY.out]; exact he
            · exact HF.out j (by omega))
          have hq : eqN x y = true := by unfold eqN; exact decide_eq_true he
          have hE := neqRun x y
          rw [hq] at hE
          clear he HF
          go_wp2
          go_quiet (fail)
          go_wp2
          go_roundw
          case rel => exact ⟨k + 1, by omega, by go_num, HF2, Lib.hid (below_drewN HB.out _)⟩
          case measure => simp [intOf]; omega
        · have HD : Hid (decide (a = b) = false) := Lib.hid (decide_eq_false (fun e => he (by rw [← HX.out, ← HY.out, e])))
          have hq : eqN x y = false := by unfold eqN; exact decide_eq_false he
          have hE := neqRun x y
          rw [hq] at hE
          clear he HF
          go_wp2
          go_quiet (fail)
          go_wp2
          go_ret
          exact ⟨by rw [HD.out]; rfl, below_drewN HB.out _⟩
      · have hkn : k = n := by omega
        subst hkn
        have HD : Hid (decide (a = b) = true) := Lib.hid (decide_eq_true (list_eq_at (HL.out.trans HL2.out.symm) (fun j hj => HF.out j (by have := HL.out; omega))))
        clear HF
        go_wp2
        go_ret
        exact ⟨by rw [HD.out]; rfl, HB.out⟩
  · have HD : Hid (decide (a = b) = false) := Lib.hid (decide_eq_false (fun e => hnm (by rw [← hl, ← hl2, e])))
    have hne : ((n : Int) != (m : Int)) = true := by rw [bne_iff_ne]; omega
    clear hR hR2 hl hl2 hnm
    go_enter Tryz.func19, Tryz.ntmps19
    go_wp2
    go_ret
    exact ⟨by rw [HD.out]; rfl, Below.refl _ _⟩
end Go.Proofs.YtjpmhbnikoggaaaGreatDoor
/- Layer 5: cmp of integers, of nodes, of lists, by the program. -/
namespace Go.Proofs.Ws
open Go
end Go.Proofs.Ws
namespace Go.Proofs.YtjpmhbnikoggaaaGreatDoor
open Go.RowKit Go.Proofs.Ws Go.Maps
theorem finW_out_le {f : List Nd} (hf : opsL f) (i : Nat) (hi : i < f.length) : (canT (treeAt f i)).length ≤ f.length := by
  obtain ⟨h1, h2, _⟩ := finW_cnt hf (i + 1) i ⟨[], List.replicate f.length none⟩ (by omega) hi (by simp) (cnt0 f.length)
  rw [← walk_tree hf (Nat.lt_succ_self i) hi]
  exact h1.le h2
theorem compF_le (f : List Nd) : (compF f).length ≤ f.length := by
  unfold compF
  split
  · rename_i h
    have hne : f.length ≠ 0 := by simpa using (fErr_ok h).1
    rw [canonF_tree (fErr_ops h) (fErr_ok h).1]
    exact finW_out_le (fErr_ops h) _ (by omega)
  · exact Nat.zero_le _
def is (l : List Int) : List Value := l.map (Value.int .i64)
end Go.Proofs.YtjpmhbnikoggaaaGreatDoor
/- Layer 5: two nodes compared by the program. -/
namespace Go.Proofs.YtjpmhbnikoggaaaGreatDoor
open Go.RowKit Go.Proofs.Ws Go.Maps
end Go.Proofs.YtjpmhbnikoggaaaGreatDoor
/- Layer 5: Same and Compare of the program. -/
namespace Go.Proofs.YtjpmhbnikoggaaaGreatDoor
open Go.RowKit Go.Proofs.Ws Go.Maps
end Go.Proofs.YtjpmhbnikoggaaaGreatDoor
/- Layer 5: Same and Compare of the reference. -/
namespace Go.Proofs.Ws
open Go
end Go.Proofs.Ws
namespace Go.Proofs.YtjpmhbnikoggaaaGreatDoor
open Go.RowKit Go.Proofs.Ws Go.Maps
end Go.Proofs.YtjpmhbnikoggaaaGreatDoor
/- Layer 5: the canonical list of a formula is a formula. -/
namespace Go.Proofs.Ws
open Go
/-- the fields of a node that do not depend on its place -/
def fldOk (n : Nd) : Prop := known n.op = true ∧ ((n.op = 3 ∨ hasAgent n.op = true ∨ n.op = 17 ∨ n.i = 0) ∧ (n.op = 17 ∨ n.e = 0) ∧ (hasGroup n.op = true ∨ n.g = 0)) ∧ rangeOk n = true
theorem formOk_iff (n : Nd) (k : Nat) : formOk n (k : Int) = true ↔ opsOk n k ∧ ((n.op = 3 ∨ hasAgent n.op = true ∨ n.op = 17 ∨ n.i = 0) ∧ (n.op = 17 ∨ n.e = 0) ∧ (hasGroup n.op = true ∨ n.g = 0)) := by
  unfold formOk opsOk
  simp only [Bool.and_eq_true, Bool.or_eq_true, decide_eq_true_eq]
  by_cases hx : usesX n.op = true <;> by_cases hy : usesY n.op = true <;> simp [hx, hy, and_assoc, or_assoc]
theorem nodeErr_iff (n : Nd) (k : Nat) : nodeErr n (k : Int) = 0 ↔ opsOk n k ∧ fldOk n := by
  constructor
  · intro h
    obtain ⟨h1, h2, h3⟩ := nodeErr_ok h
    obtain ⟨h4, h5⟩ := (formOk_iff n k).1 h2
    exact ⟨h4, h1, h5, h3⟩
  · rintro ⟨h4, h1, h5, h3⟩
    have h2 := (formOk_iff n k).2 ⟨h4, h5⟩
    unfold nodeErr
    rw [h1, h2, h3]; rfl
theorem errFrom_zero (l : List Nd) : ∀ (m k : Nat), l.length - k ≤ m → (∀ j, k ≤ j → j < l.length → nodeErr (l.getD j nd0) (j : Int) = 0) → errFrom k (l.drop k) = 0 := by
  intro m
  induction m with
  | zero => intro k h _; rw [List.drop_of_length_le (by omega)]; rfl
  | succ m ih =>
    intro k h he
    by_cases hk : k < l.length
    · rw [List.drop_eq_getElem_cons hk]
      have hg : l.getD k nd0 = l[k] := by simp [hk]
      have h0 := he k (Nat.le_refl _) hk
      rw [hg] at h0
      show (if nodeErr l[k] (k : Int) ≠ 0 then nodeErr l[k] (k : Int) else errFrom (k + 1) (l.drop (k + 1))) = 0
      rw [h0, if_neg (by simp)]
      exact ih (k + 1) (by omega) (fun j h1 h2 => he j (by omega) h2)
    · rw [List.drop_of_length_le (by omega)]; rfl
theorem fErr_zero {l : List Nd} (hne : l ≠ []) (hl : l.length ≤ 200) (h : ∀ j, j < l.length → opsOk (l.getD j nd0) j ∧ fldOk (l.getD j nd0)) : fErr l = 0 := by
  have h0 : l.length ≠ 0 := by simpa using hne
  unfold fErr
  rw [if_neg h0, if_neg (by omega)]
  have := errFrom_zero l l.length 0 (by omega) (fun j _ hj => (nodeErr_iff _ j).2 (h j hj))
  simpa using this
theorem fErr_fld {l : List Nd} (h : fErr l = 0) : ∀ n ∈ l, fldOk n := by
  intro n hn
  obtain ⟨j, hj, hj2⟩ := List.getElem_of_mem hn
  have := (nodeErr_iff _ j).1 ((fErr_ok h).2.2 j hj)
  rw [show l.getD j nd0 = n from by simp [hj, hj2]] at this
  exact this.2
theorem getD_mem {l : List Nd} {j : Nat} (h : j < l.length) : l.getD j nd0 ∈ l := by
  rw [show l.getD j nd0 = l[j] from by simp [h]]; exact List.getElem_mem h
theorem canT_fld {f : List Nd} (hf : opsL f) (hF : ∀ n ∈ f, fldOk n) {i : Nat} (hi : i < f.length) : ∀ n ∈ canT (treeAt f i), fldOk n :=
  finT_all (P := fldOk) (treeAt f i) (treeAt_ok hf (i + 1) i (by omega) hi) (treeAt_all hf (fun n hn => hF n hn) (i + 1) i (by omega) hi) (fun n hn => absurd hn (by simp))
theorem finT_ne (t : Tr) (o : List Nd) : (finT t o).2 ≠ [] := fun e => by have := finT_lt t o; rw [e] at this; simp at this
theorem canT_ok {f : List Nd} (hf : opsL f) (hF : ∀ n ∈ f, fldOk n) {i : Nat} (hi : i < f.length) (hl : (canT (treeAt f i)).length ≤ 200) : fErr (canT (treeAt f i)) = 0 :=
  fErr_zero (finT_ne _ _) hl (fun _ hj => ⟨canT_ops (treeAt_ok hf (i + 1) i (by omega) hi) _ hj, canT_fld hf hF hi _ (getD_mem hj)⟩)
theorem compF_tree {f : List Nd} (h : fErr f = 0) : compF f = canT (treeAt f (f.length - 1)) := by
  unfold compF; rw [if_pos h, canonF_tree (fErr_ops h) (fErr_ok h).1]
end Go.Proofs.Ws
namespace Go.Proofs.YtjpmhbnikoggaaaGreatDoor
open Go.RowKit Go.Proofs.Ws Go.Maps
theorem compF_ok {f : List Nd} (h : fErr f = 0) : fErr (compF f) = 0 := by
  have hne : f.length ≠ 0 := by simpa using (fErr_ok h).1
  have hl := compF_le f
  have h2 := (fErr_ok h).2.1
  rw [compF_tree h] at hl ⊢
  exact canT_ok (fErr_ops h) (fErr_fld h) (by omega) (by omega)
/-- a list of lists of nodes -/
structure LL (W : World) (base : Nat) (v : Value) (ls : List (List Nd)) : Prop where
  row : ∃ vs, W.ownsRow base 34 1 v ls.length vs ∧ ∀ j, j < ls.length → ∃ A c, vs[j]? = some (.slice A (ls.getD j []).length c) ∧ W.ownsRow 0 79 6 (.slice A (ls.getD j []).length c) (ls.getD j []).length (nds (ls.getD j []))
theorem LL.nil (W : World) (base : Nat) : LL W base (.slice none 0 0) [] := ⟨[], World.ownsRow_nil _ _ _ _, fun j hj => absurd hj (by simp)⟩
theorem LL.below {W W' : World} {base : Nat} {v : Value} {ls : List (List Nd)} (h : LL W base v ls) (hb : Below W.heap.size W W') : LL W' base v ls := by
  obtain ⟨vs, h1, h2⟩ := h.row
  refine ⟨vs, own_keep1K h1 (fun g hg => hb.block g (h1.lt g hg).2), fun j hj => ?_⟩
  obtain ⟨A, c, h3, h4⟩ := h2 j hj
  exact ⟨A, c, h3, own_keep1K h4 (fun g hg => hb.block g (h4.lt g hg).2)⟩
theorem own_typeK {W : World} {b size n : Nat} {e : TypeId} {v : Value} {xs : List Value} (h : W.ownsRow b e size v n xs) {g : Nat} (hg : v.ownBlock = some g) : ∃ cur, W.heap[g]? = some (.cells cur e (0, 0)) := by
  rcases h.2 with ⟨rfl, _⟩ | ⟨g2, cap, cur, rfl, _, h2, _⟩
  · cases hg
  · have e2 : g2 = g := by injection hg
    subst e2
    exact ⟨cur, h2⟩
end Go.Proofs.YtjpmhbnikoggaaaGreatDoor
