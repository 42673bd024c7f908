/- Layer 6: texts joined: Ky Kz Kza Kzb Kzc Ma. -/
import Derived.Test.YtjpmhbnikoggaaaDoorNJg
import Derived.Test.YtjpmhbnikoggaaaDoorNJh
/- Layer 5: Compact, Sub, Size on both sides, Equal. -/
namespace Go.Proofs.YtjpmhbnikoggaaaDoor
open Go.RowKit Go.Proofs.Ws Go.Maps
theorem NdR_of {n : Nd} {k : Int} (h : nodeErr n k = 0) : NdR n := by
  obtain ⟨h1, h2, h3⟩ := nodeErr_ok h
  have hop : 1 ≤ n.op ∧ n.op ≤ 21 := by
    unfold known at h1
    simp only [Bool.and_eq_true, decide_eq_true_eq] at h1
    exact h1
  unfold formOk at h2
  unfold rangeOk shN shE shG at h3
  simp only [Bool.and_eq_true, Bool.or_eq_true, decide_eq_true_eq, beq_iff_eq] at h2 h3
  obtain ⟨⟨⟨⟨_, _⟩, hi⟩, he⟩, hg⟩ := h2
  obtain ⟨⟨ri, re⟩, rg⟩ := h3
  refine ⟨by omega, ?_, ?_, ?_⟩
  · by_cases a : n.op = 3
    · rw [if_pos a] at ri; omega
    · rw [if_neg a] at ri
      by_cases b : hasAgent n.op = true
      · rw [if_pos b] at ri; omega
      · rw [if_neg b] at ri
        by_cases c : n.op = 17
        · rw [if_pos c] at ri; omega
        · rcases hi with ((h | h) | h) | h
          · exact absurd h a
          · exact absurd h b
          · exact absurd h c
          · omega
  · by_cases c : n.op = 17
    · rw [if_pos c] at re; omega
    · rcases he with h | h
      · exact absurd h c
      · omega
  · by_cases c : hasGroup n.op = true
    · rw [if_pos c] at rg; omega
    · rcases hg with h | h
      · exact absurd h c
      · omega
theorem OkL_of {f : List Nd} (h : fErr f = 0) : OkL f := ⟨(fErr_ok h).1, fErr_ops h, fun i hi => NdR_of ((fErr_ok h).2.2 i hi)⟩
theorem OkL.take {f : List Nd} (h : OkL f) {i : Nat} (hi : i < f.length) : OkL (f.take (i + 1)) := by
  have hl : (f.take (i + 1)).length = i + 1 := by rw [List.length_take]; omega
  refine ⟨by intro e; rw [e] at hl; simp at hl, opsL_take h.ops _, fun j hj => ?_⟩
  rw [take_getD (by omega)]
  exact h.rng j (by omega)
set_option maxRecDepth 100000 in
theorem pCompact_own (f : List Nd) (A : Option Addr) (n c : Nat) (w : World) (hR : Reads w w.heap.size 6 A n (nds f)) (hm : n ≤ maxLen) :
    Calls Tryd.prog 84 #[.slice A n c] w fun e w' => ∃ A' c', e = .returned (.slice A' (compF f).length c') ∧ w'.ownsRow w.heap.size 62 6 (.slice A' (compF f).length c') (compF f).length (nds (compF f)) ∧ Below w.heap.size w w' := by
  have hl := hR.nd_len
  have HV := Lib.hid (pValid_any f A n c w hR hm)
  have HR := Lib.hid hR
  by_cases hz : fErr f = 0
  · have h200 := (fErr_ok hz).2.1
    have HC : Hid (∀ W, Reads W W.heap.size 6 A n (nds f) → Calls Tryd.prog 51 #[.slice A n c] W fun e w' => ∃ A' c', e = .returned (.slice A' (canonF f).length c') ∧ w'.ownsRow W.heap.size 62 6 (.slice A' (canonF f).length c') (canonF f).length (nds (canonF f)) ∧ Below W.heap.size W w') :=
      Lib.hid (fun W h => pCanon_own f (OkL_of hz) A n c W h (by omega))
    have e1 : compF f = canonF f := by unfold compF; rw [if_pos hz]
    rw [e1]
    rw [hz] at HV
    generalize canonF f = q at *
    clear hR hl hz h200 e1
    go_enter Tryd.func84, Tryd.ntmps84
    go_wp2_with fail
    refine (HV.out).mono ?_
    rintro e w1 ⟨rfl, hb⟩
    have HB := Lib.hid hb
    have hR1 := (HR.out.below hb).more hb.size
    clear hb
    go_wp2_with fail
    refine (HC.out w1 hR1).mono ?_
    rintro e w2 ⟨A', c', rfl, hR2, hb2⟩
    have HR2 := Lib.hid (own_baseK hR2 HB.out.size)
    have HB2 := Lib.hid (HB.out.trans (hb2.mono HB.out.size))
    clear hR2 hb2 hR1
    go_wp2
    go_ret
    exact ⟨A', c', rfl, HR2.out, HB2.out⟩
  · have e1 : compF f = [] := by unfold compF; rw [if_neg hz]
    have hzb : (fErr f == 0) = false := by simpa using hz
    rw [e1]
    rw [hzb] at HV
    clear hR hl hz e1 hzb
    go_enter Tryd.func84, Tryd.ntmps84
    go_wp2_with fail
    refine (HV.out).mono ?_
    rintro e w1 ⟨rfl, hb⟩
    have HB := Lib.hid hb
    clear hb
    go_wp2
    go_ret
    exact ⟨none, 0, rfl, World.ownsRow_nil _ _ _ _, HB.out⟩
theorem pCompact_any (f : List Nd) (A : Option Addr) (n c : Nat) (w : World) (hR : Reads w w.heap.size 6 A n (nds f)) (hm : n ≤ maxLen) :
    Calls Tryd.prog 84 #[.slice A n c] w fun e w' => ∃ A' c', e = .returned (.slice A' (compF f).length c') ∧ Reads w' w'.heap.size 6 A' (compF f).length (nds (compF f)) ∧ Below w.heap.size w w' :=
  (pCompact_own f A n c w hR hm).mono (by
    rintro e w' ⟨A', c', rfl, h1, h2⟩
    exact ⟨A', c', rfl, Reads.of_own h1, h2⟩)
end Go.Proofs.YtjpmhbnikoggaaaDoor
/- Layer 5: cmp of integers, of nodes, of lists, by the program. -/
namespace Go.Proofs.Ws
open Go
end Go.Proofs.Ws
namespace Go.Proofs.YtjpmhbnikoggaaaDoor
open Go.RowKit Go.Proofs.Ws Go.Maps
theorem finW_out_le {f : List Nd} (hf : opsL f) (i : Nat) (hi : i < f.length) : (canT (treeAt f i)).length ≤ f.length := by
  obtain ⟨h1, h2, _⟩ := finW_cnt hf (i + 1) i ⟨[], List.replicate f.length none⟩ (by omega) hi (by simp) (cnt0 f.length)
  rw [← walk_tree hf (Nat.lt_succ_self i) hi]
  exact h1.le h2
theorem compF_le (f : List Nd) : (compF f).length ≤ f.length := by
  unfold compF
  split
  · rename_i h
    have hne : f.length ≠ 0 := by simpa using (fErr_ok h).1
    rw [canonF_tree (fErr_ops h) (fErr_ok h).1]
    exact finW_out_le (fErr_ops h) _ (by omega)
  · exact Nat.zero_le _
def is (l : List Int) : List Value := l.map (Value.int .i64)
end Go.Proofs.YtjpmhbnikoggaaaDoor
/- Layer 5: two nodes compared by the program. -/
namespace Go.Proofs.YtjpmhbnikoggaaaDoor
open Go.RowKit Go.Proofs.Ws Go.Maps
end Go.Proofs.YtjpmhbnikoggaaaDoor
/- Layer 5: Same and Compare of the program. -/
namespace Go.Proofs.YtjpmhbnikoggaaaDoor
open Go.RowKit Go.Proofs.Ws Go.Maps
end Go.Proofs.YtjpmhbnikoggaaaDoor
/- Layer 5: Same and Compare of the reference. -/
namespace Go.Proofs.Ws
open Go
end Go.Proofs.Ws
namespace Go.Proofs.YtjpmhbnikoggaaaDoor
open Go.RowKit Go.Proofs.Ws Go.Maps
end Go.Proofs.YtjpmhbnikoggaaaDoor
/- Layer 5: the canonical list of a formula is a formula. -/
namespace Go.Proofs.Ws
open Go
/-- the fields of a node that do not depend on its place -/
def fldOk (n : Nd) : Prop := known n.op = true ∧ ((n.op = 3 ∨ hasAgent n.op = true ∨ n.op = 17 ∨ n.i = 0) ∧ (n.op = 17 ∨ n.e = 0) ∧ (hasGroup n.op = true ∨ n.g = 0)) ∧ rangeOk n = true
theorem formOk_iff (n : Nd) (k : Nat) : formOk n (k : Int) = true ↔ opsOk n k ∧ ((n.op = 3 ∨ hasAgent n.op = true ∨ n.op = 17 ∨ n.i = 0) ∧ (n.op = 17 ∨ n.e = 0) ∧ (hasGroup n.op = true ∨ n.g = 0)) := by
  unfold formOk opsOk
  simp only [Bool.and_eq_true, Bool.or_eq_true, decide_eq_true_eq]
  by_cases hx : usesX n.op = true <;> by_cases hy : usesY n.op = true <;> simp [hx, hy, and_assoc, or_assoc]
theorem nodeErr_iff (n : Nd) (k : Nat) : nodeErr n (k : Int) = 0 ↔ opsOk n k ∧ fldOk n := by
  constructor
  · intro h
    obtain ⟨h1, h2, h3⟩ := nodeErr_ok h
    obtain ⟨h4, h5⟩ := (formOk_iff n k).1 h2
    exact ⟨h4, h1, h5, h3⟩
  · rintro ⟨h4, h1, h5, h3⟩
    have h2 := (formOk_iff n k).2 ⟨h4, h5⟩
    unfold nodeErr
    rw [h1, h2, h3]; rfl
theorem errFrom_zero (l : List Nd) : ∀ (m k : Nat), l.length - k ≤ m → (∀ j, k ≤ j → j < l.length → nodeErr (l.getD j nd0) (j : Int) = 0) → errFrom k (l.drop k) = 0 := by
  intro m
  induction m with
  | zero => intro k h _; rw [List.drop_of_length_le (by omega)]; rfl
  | succ m ih =>
    intro k h he
    by_cases hk : k < l.length
    · rw [List.drop_eq_getElem_cons hk]
      have hg : l.getD k nd0 = l[k] := by simp [hk]
      have h0 := he k (Nat.le_refl _) hk
      rw [hg] at h0
      show (if nodeErr l[k] (k : Int) ≠ 0 then nodeErr l[k] (k : Int) else errFrom (k + 1) (l.drop (k + 1))) = 0
      rw [h0, if_neg (by simp)]
      exact ih (k + 1) (by omega) (fun j h1 h2 => he j (by omega) h2)
    · rw [List.drop_of_length_le (by omega)]; rfl
theorem fErr_zero {l : List Nd} (hne : l ≠ []) (hl : l.length ≤ 200) (h : ∀ j, j < l.length → opsOk (l.getD j nd0) j ∧ fldOk (l.getD j nd0)) : fErr l = 0 := by
  have h0 : l.length ≠ 0 := by simpa using hne
  unfold fErr
  rw [if_neg h0, if_neg (by omega)]
  have := errFrom_zero l l.length 0 (by omega) (fun j _ hj => (nodeErr_iff _ j).2 (h j hj))
  simpa using this
theorem fErr_fld {l : List Nd} (h : fErr l = 0) : ∀ n ∈ l, fldOk n := by
  intro n hn
  obtain ⟨j, hj, hj2⟩ := List.getElem_of_mem hn
  have := (nodeErr_iff _ j).1 ((fErr_ok h).2.2 j hj)
  rw [show l.getD j nd0 = n from by simp [hj, hj2]] at this
  exact this.2
theorem getD_mem {l : List Nd} {j : Nat} (h : j < l.length) : l.getD j nd0 ∈ l := by
  rw [show l.getD j nd0 = l[j] from by simp [h]]; exact List.getElem_mem h
theorem canT_fld {f : List Nd} (hf : opsL f) (hF : ∀ n ∈ f, fldOk n) {i : Nat} (hi : i < f.length) : ∀ n ∈ canT (treeAt f i), fldOk n :=
  finT_all (P := fldOk) (treeAt f i) (treeAt_ok hf (i + 1) i (by omega) hi) (treeAt_all hf (fun n hn => hF n hn) (i + 1) i (by omega) hi) (fun n hn => absurd hn (by simp))
theorem finT_ne (t : Tr) (o : List Nd) : (finT t o).2 ≠ [] := fun e => by have := finT_lt t o; rw [e] at this; simp at this
theorem canT_ok {f : List Nd} (hf : opsL f) (hF : ∀ n ∈ f, fldOk n) {i : Nat} (hi : i < f.length) (hl : (canT (treeAt f i)).length ≤ 200) : fErr (canT (treeAt f i)) = 0 :=
  fErr_zero (finT_ne _ _) hl (fun _ hj => ⟨canT_ops (treeAt_ok hf (i + 1) i (by omega) hi) _ hj, canT_fld hf hF hi _ (getD_mem hj)⟩)
theorem compF_tree {f : List Nd} (h : fErr f = 0) : compF f = canT (treeAt f (f.length - 1)) := by
  unfold compF; rw [if_pos h, canonF_tree (fErr_ops h) (fErr_ok h).1]
end Go.Proofs.Ws
namespace Go.Proofs.YtjpmhbnikoggaaaDoor
open Go.RowKit Go.Proofs.Ws Go.Maps
theorem compF_ok {f : List Nd} (h : fErr f = 0) : fErr (compF f) = 0 := by
  have hne : f.length ≠ 0 := by simpa using (fErr_ok h).1
  have hl := compF_le f
  have h2 := (fErr_ok h).2.1
  rw [compF_tree h] at hl ⊢
  exact canT_ok (fErr_ops h) (fErr_fld h) (by omega) (by omega)
theorem compF_fld (f : List Nd) : ∀ n ∈ compF f, fldOk n := by
  by_cases h : fErr f = 0
  · exact fErr_fld (compF_ok h)
  · unfold compF; rw [if_neg h]; intro n hn; simp at hn
/-- a list of lists of nodes -/
structure LL (W : World) (base : Nat) (v : Value) (ls : List (List Nd)) : Prop where
  row : ∃ vs, W.ownsRow base 26 1 v ls.length vs ∧ ∀ j, j < ls.length → ∃ A c, vs[j]? = some (.slice A (ls.getD j []).length c) ∧ W.ownsRow 0 62 6 (.slice A (ls.getD j []).length c) (ls.getD j []).length (nds (ls.getD j []))
theorem LL.nil (W : World) (base : Nat) : LL W base (.slice none 0 0) [] := ⟨[], World.ownsRow_nil _ _ _ _, fun j hj => absurd hj (by simp)⟩
theorem LL.below {W W' : World} {base : Nat} {v : Value} {ls : List (List Nd)} (h : LL W base v ls) (hb : Below W.heap.size W W') : LL W' base v ls := by
  obtain ⟨vs, h1, h2⟩ := h.row
  refine ⟨vs, own_keep1K h1 (fun g hg => hb.block g (h1.lt g hg).2), fun j hj => ?_⟩
  obtain ⟨A, c, h3, h4⟩ := h2 j hj
  exact ⟨A, c, h3, own_keep1K h4 (fun g hg => hb.block g (h4.lt g hg).2)⟩
theorem own_typeK {W : World} {b size n : Nat} {e : TypeId} {v : Value} {xs : List Value} (h : W.ownsRow b e size v n xs) {g : Nat} (hg : v.ownBlock = some g) : ∃ cur, W.heap[g]? = some (.cells cur e (0, 0)) := by
  rcases h.2 with ⟨rfl, _⟩ | ⟨g2, cap, cur, rfl, _, h2, _⟩
  · cases hg
  · have e2 : g2 = g := by injection hg
    subst e2
    exact ⟨cur, h2⟩
theorem own_apartK {W : World} {b b2 size size2 n n2 : Nat} {e e2 : TypeId} {v v2 : Value} {xs xs2 : List Value} (h : W.ownsRow b e size v n xs) (h2 : W.ownsRow b2 e2 size2 v2 n2 xs2) (hne : e ≠ e2) {g : Nat} (hg : v.ownBlock = some g) : v2.ownBlock ≠ some g := by
  intro hg2
  obtain ⟨c1, k1⟩ := own_typeK h hg
  obtain ⟨c2, k2⟩ := own_typeK h2 hg2
  rw [k1] at k2
  injection k2 with k2
  injection k2 with _ k3
  exact hne k3
end Go.Proofs.YtjpmhbnikoggaaaDoor
