/- Layer 6: texts joined: Ma Mf. -/
import Derived.Test.YtopkmcoblndokaaDoorNVi
import Derived.Laws.BitsLemmas
/- Layer 5: the canonical list of a formula is a formula. -/
namespace Go.Proofs.Ws
open Go
/-- the fields of a node that do not depend on its place -/
def fldOk (n : Nd) : Prop := known n.op = true ∧ ((n.op = 3 ∨ hasAgent n.op = true ∨ n.op = 17 ∨ n.i = 0) ∧ (n.op = 17 ∨ n.e = 0) ∧ (hasGroup n.op = true ∨ n.g = 0)) ∧ rangeOk n = true
theorem formOk_iff (n : Nd) (k : Nat) : formOk n (k : Int) = true ↔ opsOk n k ∧ ((n.op = 3 ∨ hasAgent n.op = true ∨ n.op = 17 ∨ n.i = 0) ∧ (n.op = 17 ∨ n.e = 0) ∧ (hasGroup n.op = true ∨ n.g = 0)) := by
  unfold formOk opsOk
  simp only [Bool.and_eq_true, Bool.or_eq_true, decide_eq_true_eq]
  by_cases hx : usesX n.op = true <;> by_cases hy : usesY n.op = true <;> simp [hx, hy, and_assoc, or_assoc]
theorem nodeErr_iff (n : Nd) (k : Nat) : nodeErr n (k : Int) = 0 ↔ opsOk n k ∧ fldOk n := by
  constructor
  · intro h
    obtain ⟨h1, h2, h3⟩ := nodeErr_ok h
    obtain ⟨h4, h5⟩ := (formOk_iff n k).1 h2
    exact ⟨h4, h1, h5, h3⟩
  · rintro ⟨h4, h1, h5, h3⟩
    have h2 := (formOk_iff n k).2 ⟨h4, h5⟩
    unfold nodeErr
    rw [h1, h2, h3]; rfl
theorem errFrom_zero (l : List Nd) : ∀ (m k : Nat), l.length - k ≤ m → (∀ j, k ≤ j → j < l.length → nodeErr (l.getD j nd0) (j : Int) = 0) → errFrom k (l.drop k) = 0 := by
  intro m
  induction m with
  | zero => intro k h _; rw [List.drop_of_length_le (by omega)]; rfl
  | succ m ih =>
    intro k h he
    by_cases hk : k < l.length
    · rw [List.drop_eq_getElem_cons hk]
      have hg : l.getD k nd0 = l[k] := by simp [hk]
      have h0 := he k (Nat.le_refl _) hk
      rw [hg] at h0
      show (if nodeErr l[k] (k : Int) ≠ 0 then nodeErr l[k] (k : Int) else errFrom (k + 1) (l.drop (k + 1))) = 0
      rw [h0, if_neg (by simp)]
      exact ih (k + 1) (by omega) (fun j h1 h2 => he j (by omega) h2)
    · rw [List.drop_of_length_le (by omega)]; rfl
theorem fErr_zero {l : List Nd} (hne : l ≠ []) (hl : l.length ≤ 200) (h : ∀ j, j < l.length → opsOk (l.getD j nd0) j ∧ fldOk (l.getD j nd0)) : fErr l = 0 := by
  have h0 : l.length ≠ 0 := by simpa using hne
  unfold fErr
  rw [if_neg h0, if_neg (by omega)]
  have := errFrom_zero l l.length 0 (by omega) (fun j _ hj => (nodeErr_iff _ j).2 (h j hj))
  simpa using this
theorem fErr_fld {l : List Nd} (h : fErr l = 0) : ∀ n ∈ l, fldOk n := by
  intro n hn
  obtain ⟨j, hj, hj2⟩ := List.getElem_of_mem hn
  have := (nodeErr_iff _ j).1 ((fErr_ok h).2.2 j hj)
  rw [show l.getD j nd0 = n from by simp [hj, hj2]] at this
  exact this.2
theorem getD_mem {l : List Nd} {j : Nat} (h : j < l.length) : l.getD j nd0 ∈ l := by
  rw [show l.getD j nd0 = l[j] from by simp [h]]; exact List.getElem_mem h
theorem canT_fld {f : List Nd} (hf : opsL f) (hF : ∀ n ∈ f, fldOk n) {i : Nat} (hi : i < f.length) : ∀ n ∈ canT (treeAt f i), fldOk n :=
  finT_all (P := fldOk) (treeAt f i) (treeAt_ok hf (i + 1) i (by omega) hi) (treeAt_all hf (fun n hn => hF n hn) (i + 1) i (by omega) hi) (fun n hn => absurd hn (by simp))
theorem finT_ne (t : Tr) (o : List Nd) : (finT t o).2 ≠ [] := fun e => by have := finT_lt t o; rw [e] at this; simp at this
theorem canT_ok {f : List Nd} (hf : opsL f) (hF : ∀ n ∈ f, fldOk n) {i : Nat} (hi : i < f.length) (hl : (canT (treeAt f i)).length ≤ 200) : fErr (canT (treeAt f i)) = 0 :=
  fErr_zero (finT_ne _ _) hl (fun _ hj => ⟨canT_ops (treeAt_ok hf (i + 1) i (by omega) hi) _ hj, canT_fld hf hF hi _ (getD_mem hj)⟩)
theorem compF_tree {f : List Nd} (h : fErr f = 0) : compF f = canT (treeAt f (f.length - 1)) := by
  unfold compF; rw [if_pos h, canonF_tree (fErr_ops h) (fErr_ok h).1]
end Go.Proofs.Ws
namespace Go.Proofs.YtopkmcoblndokaaDoor
open Go.RowKit Go.Proofs.Ws Go.Maps
set_option maxRecDepth 100000
theorem compF_ok {f : List Nd} (h : fErr f = 0) : fErr (compF f) = 0 := by
  have hne : f.length ≠ 0 := by simpa using (fErr_ok h).1
  have hl := compF_le f
  have h2 := (fErr_ok h).2.1
  rw [compF_tree h] at hl ⊢
  exact canT_ok (fErr_ops h) (fErr_fld h) (by omega) (by omega)
theorem compF_fld (f : List Nd) : ∀ n ∈ compF f, fldOk n := by
  by_cases h : fErr f = 0
  · exact fErr_fld (compF_ok h)
  · unfold compF; rw [if_neg h]; intro n hn; simp at hn
/-- a list of lists of nodes -/
structure LL (W : World) (base : Nat) (v : Value) (ls : List (List Nd)) : Prop where
  row : ∃ vs, W.ownsRow base 22 1 v ls.length vs ∧ ∀ j, j < ls.length → ∃ A c, vs[j]? = some (.slice A (ls.getD j []).length c) ∧ W.ownsRow 0 55 6 (.slice A (ls.getD j []).length c) (ls.getD j []).length (nds (ls.getD j []))
theorem LL.nil (W : World) (base : Nat) : LL W base (.slice none 0 0) [] := ⟨[], World.ownsRow_nil _ _ _ _, fun j hj => absurd hj (by simp)⟩
theorem LL.below {W W' : World} {base : Nat} {v : Value} {ls : List (List Nd)} (h : LL W base v ls) (hb : Below W.heap.size W W') : LL W' base v ls := by
  obtain ⟨vs, h1, h2⟩ := h.row
  refine ⟨vs, own_keep1 h1 (fun g hg => hb.block g (h1.lt g hg).2), fun j hj => ?_⟩
  obtain ⟨A, c, h3, h4⟩ := h2 j hj
  exact ⟨A, c, h3, own_keep1 h4 (fun g hg => hb.block g (h4.lt g hg).2)⟩
end Go.Proofs.YtopkmcoblndokaaDoor
/- Layer 5: the masks of the program: fragments, facts, agents. -/
namespace Go.Proofs.Ws
open Go
def fragN (op : Int) : Nat :=
  if op = 9 ∨ op = 10 then 1 else if op = 11 then 2 else if op = 12 then 4 else if op = 13 then 8 else if op = 14 then 16 else if op = 15 then 32 else if op = 16 then 64 else if op = 17 then 128 else if 18 ≤ op then 256 else 0
def fragD (n : Nd) : Nat := fragN n.op
def factD (n : Nd) : Nat := if n.op = 3 then 2 ^ n.i.toNat else 0
def agentD (n : Nd) : Nat := if hasAgent n.op = true then 2 ^ n.i.toNat else n.g.toNat
/-- the union of the masks of nodes -/
def maskL (g : Nd → Nat) (l : List Nd) : Nat := l.foldl (fun m n => m ||| g n) 0
theorem maskL_take (g : Nd → Nat) (l : List Nd) (k : Nat) (h : k < l.length) : maskL g (l.take (k + 1)) = maskL g (l.take k) ||| g (l.getD k nd0) := by
  unfold maskL
  rw [List.take_succ_eq_append_getElem h, List.foldl_append, show l.getD k nd0 = l[k] from by simp [h]]
  rfl
theorem maskL_lt (g : Nd → Nat) : ∀ (l : List Nd), (∀ n ∈ l, g n < 512) → maskL g l < 512 := by
  have : ∀ (l : List Nd) (a : Nat), a < 512 → (∀ n ∈ l, g n < 512) → l.foldl (fun m n => m ||| g n) a < 512 := by
    intro l
    induction l with
    | nil => intro a h _; exact h
    | cons n l ih =>
      intro a h hl
      exact ih _ (Nat.or_lt_two_pow (n := 9) h (hl n (by simp))) (fun m hm => hl m (by simp [hm]))
  exact fun l h => this l 0 (by decide) h
theorem fragN_lt (op : Int) : fragN op < 512 := by
  unfold fragN
  repeat (split; decide)
  decide
theorem fld_i {n : Nd} (h : fldOk n) : (n.op = 3 → 0 ≤ n.i ∧ n.i < 8) ∧ (hasAgent n.op = true → 0 ≤ n.i ∧ n.i < 4) ∧ (hasGroup n.op = true → 1 ≤ n.g ∧ n.g ≤ 15) ∧ (hasGroup n.op = false → n.g = 0) := by
  obtain ⟨_, ⟨_, _, hg⟩, hr⟩ := h
  unfold rangeOk shN shE shG at hr
  simp only [Bool.and_eq_true, Bool.or_eq_true, decide_eq_true_eq, beq_iff_eq] at hr
  obtain ⟨⟨hi, _⟩, hgg⟩ := hr
  refine ⟨fun h3 => ?_, fun ha => ?_, fun hgr => ?_, fun hgr => ?_⟩
  · rw [if_pos h3] at hi; omega
  · by_cases h3 : n.op = 3
    · rw [h3] at ha; exact absurd ha (by decide)
    · rw [if_neg h3, if_pos ha] at hi; omega
  · rw [if_pos hgr] at hgg; omega
  · rcases hg with h | h
    · rw [h] at hgr; cases hgr
    · exact h
theorem factD_lt {n : Nd} (h : fldOk n) : factD n < 512 := by
  unfold factD
  split
  · rename_i h3
    have := (fld_i h).1 h3
    exact Nat.pow_lt_pow_right (by decide) (show n.i.toNat < 9 by omega)
  · decide
theorem agentD_lt {n : Nd} (h : fldOk n) : agentD n < 512 := by
  unfold agentD
  obtain ⟨_, h2, h3, h4⟩ := fld_i h
  split
  · rename_i ha
    have := h2 ha
    exact Nat.pow_lt_pow_right (by decide) (show n.i.toNat < 9 by omega)
  · cases hg : hasGroup n.op
    · have := h4 hg; omega
    · have := h3 hg; omega
end Go.Proofs.Ws
namespace Go.Proofs.YtopkmcoblndokaaDoor
open Go.RowKit Go.Proofs.Ws Go.Maps
set_option maxRecDepth 100000
theorem or_small (a b : Nat) (ha : a < 512) (hb : b < 512) : bits .or .i64 (a : Int) (b : Int) = ((a ||| b : Nat) : Int) :=
  (bits_nat .i64 9 (by decide) (fun n h0 h1 => by rw [IntKind.wrap_i64]; omega) a b ha hb).2
theorem fragOf_any (op : Int) (hk : known op = true) (w : World) : Calls Tryd.prog 40 #[.int .i64 op] w fun e w' => e = .returned (.int .i64 (fragN op : Int)) ∧ w = w' := by
  rcases known_cases op hk with rfl | rfl | rfl | rfl | rfl | rfl | rfl | rfl | rfl | rfl | rfl | rfl | rfl | rfl | rfl | rfl | rfl | rfl | rfl | rfl | rfl
  all_goals
    go_enter Tryd.func40, Tryd.ntmps40
    go_wp2
    go_ret
    exact ⟨rfl, rfl⟩
set_option maxRecDepth 100000 in
theorem fragCl_any (n : Nd) (hk : fldOk n) (w : World) : Calls Tryd.prog 39 #[nv n] w fun e w' => e = .returned (.int .i64 (fragD n : Int)) ∧ Below w.heap.size w w' := by
  have HB : Hid (∀ o, Below w.heap.size w (w.alloc o)) := Lib.hid (fun o => (Below.refl _ w).alloc (Nat.le_refl _) o)
  have HF := Lib.hid (fun W => fragOf_any n.op hk.1 W)
  unfold nv fragD
  clear hk
  generalize fragN n.op = z at *
  go_enter Tryd.func39, Tryd.ntmps39
  go_wp2_with fail
  refine (HF.out _).mono ?_
  rintro e w1 ⟨rfl, rfl⟩
  go_wp2
  go_ret
  exact ⟨rfl, HB.out _⟩
set_option maxRecDepth 100000 in
theorem factsOf_any (n : Nd) (hk : fldOk n) (w : World) : Calls Tryd.prog 68 #[nv n] w fun e w' => e = .returned (.int .i64 (factD n : Int)) ∧ Below w.heap.size w w' := by
  have HB : Hid (∀ o, Below w.heap.size w (w.alloc o)) := Lib.hid (fun o => (Below.refl _ w).alloc (Nat.le_refl _) o)
  by_cases h3 : n.op = 3
  · obtain ⟨hi0, hi8⟩ := (fld_i hk).1 h3
    have HV : Hid (factD n = 2 ^ n.i.toNat) := Lib.hid (by unfold factD; rw [if_pos h3])
    obtain ⟨op, i, e, g, x, y⟩ := n
    have h3 : op = 3 := h3
    subst h3
    have hi0 : 0 ≤ i := hi0
    have hi8 : i < 8 := hi8
    obtain ⟨k, rfl⟩ : ∃ k : Nat, i = (k : Int) := ⟨i.toNat, by omega⟩
    have hk8 : k < 8 := by omega
    rw [HV.out]
    clear HV hk
    have hcases : k = 0 ∨ k = 1 ∨ k = 2 ∨ k = 3 ∨ k = 4 ∨ k = 5 ∨ k = 6 ∨ k = 7 := by omega
    unfold nv
    clear hi0 hi8 hk8
    rcases hcases with rfl | rfl | rfl | rfl | rfl | rfl | rfl | rfl
    all_goals
      go_enter Tryd.func68, Tryd.ntmps68
      go_wp2
      go_ret
      exact ⟨rfl, HB.out _⟩
  · have HV : Hid (factD n = 0) := Lib.hid (by unfold factD; rw [if_neg h3])
    have hb : (n.op == 3) = false := by simpa using h3
    rw [HV.out]
    unfold nv
    clear HV hk h3
    go_enter Tryd.func68, Tryd.ntmps68
    go_wp2
    go_ret
    exact ⟨rfl, HB.out _⟩
set_option maxRecDepth 100000 in
theorem agentsOf_any (n : Nd) (hk : fldOk n) (w : World) : Calls Tryd.prog 67 #[nv n] w fun e w' => e = .returned (.int .i64 (agentD n : Int)) ∧ Below w.heap.size w w' := by
  have HB : Hid (∀ o, Below w.heap.size w (w.alloc o)) := Lib.hid (fun o => (Below.refl _ w).alloc (Nat.le_refl _) o)
  cases ha : hasAgent n.op
  · obtain ⟨_, _, h3, h4⟩ := fld_i hk
    have hg : ((n.g.toNat : Nat) : Int) = n.g := by
      cases hgr : hasGroup n.op
      · have := h4 hgr; omega
      · have := h3 hgr; omega
    have HV : Hid (((agentD n : Nat) : Int) = n.g) := Lib.hid (by unfold agentD; rw [ha]; simpa using hg)
    have hne : n.op ≠ 9 ∧ n.op ≠ 10 ∧ n.op ≠ 14 ∧ n.op ≠ 15 := by
      unfold hasAgent at ha
      simp only [Bool.or_eq_false_iff, decide_eq_false_iff_not] at ha
      omega
    have b1 : (n.op == 9) = false := by simpa using hne.1
    have b2 : (n.op == 10) = false := by simpa using hne.2.1
    have b3 : (n.op == 14) = false := by simpa using hne.2.2.1
    have b4 : (n.op == 15) = false := by simpa using hne.2.2.2
    rw [HV.out]
    unfold nv
    clear HV hk ha h3 h4 hg hne
    go_enter Tryd.func67, Tryd.ntmps67
    go_wp2
    go_ret
    exact ⟨rfl, HB.out _⟩
  · obtain ⟨hi0, hi4⟩ := (fld_i hk).2.1 ha
    have HV : Hid (agentD n = 2 ^ n.i.toNat) := Lib.hid (by unfold agentD; rw [if_pos ha])
    have hop : n.op = 9 ∨ n.op = 10 ∨ n.op = 14 ∨ n.op = 15 := by
      unfold hasAgent at ha
      simp only [Bool.or_eq_true, decide_eq_true_eq] at ha
      omega
    obtain ⟨op, i, e, g, x, y⟩ := n
    have hi0 : 0 ≤ i := hi0
    have hi4 : i < 4 := hi4
    obtain ⟨k, rfl⟩ : ∃ k : Nat, i = (k : Int) := ⟨i.toNat, by omega⟩
    have hcases : k = 0 ∨ k = 1 ∨ k = 2 ∨ k = 3 := by omega
    have hop : op = 9 ∨ op = 10 ∨ op = 14 ∨ op = 15 := hop
    rw [HV.out]
    unfold nv
    clear HV hk ha hi0 hi4
    rcases hop with rfl | rfl | rfl | rfl <;> rcases hcases with rfl | rfl | rfl | rfl
    all_goals
      go_enter Tryd.func67, Tryd.ntmps67
      go_wp2
      go_ret
      exact ⟨rfl, HB.out _⟩
set_option maxRecDepth 100000 in
set_option maxHeartbeats 4000000 in
theorem col_frag (f : List Nd) (A : Option Addr) (n c : Nat) (w : World) (hR : Reads w w.heap.size 6 A n (nds f)) (hm : n ≤ maxLen) :
    Calls Tryd.prog 38 #[.slice A n c, .func (Fn.func 39) #[] #[]] w fun e w' => e = .returned (.int .i64 (maskL fragD (compF f) : Int)) ∧ Below w.heap.size w w' := by
  have HC := Lib.hid (pCompact_any f A n c w hR hm)
  have HG : Hid (∀ x, x ∈ compF f → ∀ W, Calls Tryd.prog 39 #[.agg #[.int .i64 x.op, .int .i64 x.i, .int .i64 x.e, .int .i64 x.g, .int .i64 x.x, .int .i64 x.y]] W fun e w' => e = .returned (.int .i64 (fragD x : Int)) ∧ Below W.heap.size W w') := Lib.hid (fun x hx W => fragCl_any x (compF_fld f x hx) W)
  have HLT : Hid (∀ x, x ∈ compF f → fragD x < 512) := Lib.hid (fun x hx => fragN_lt _)
  have hq63 : (compF f).length ≤ maxLen := Nat.le_trans (compF_le f) (by rw [hR.nd_len]; exact hm)
  unfold maxLen at hq63
  generalize compF f = q at *
  have HTK : Hid (∀ k, maskL fragD (q.take k) < 512) := Lib.hid (fun k => maskL_lt _ _ (fun x hx => HLT.out x (List.mem_of_mem_take hx)))
  clear hR
  go_enter Tryd.func38, Tryd.ntmps38
  go_wp2_with fail
  refine (HC.out).mono ?_
  rintro e w1 ⟨A3, c3, rfl, hR3, hb1⟩
  have HR3 := Lib.hid hR3
  have HB1 := Lib.hid hb1
  clear hR3 hb1
  go_wp2
  go_loopw [5, 7, 11] (fun v u i wr => ∃ k : Nat, k ≤ q.length ∧ i = .int .i64 k ∧ v = .int .i64 ((maskL fragD (q.take k) : Nat) : Int) ∧ Hid (Below w1.heap.size w1 wr)) (fun _ _ i _ => q.length - (intOf i).toNat)
  case atStart => exact ⟨0, Nat.zero_le _, rfl, rfl, Lib.hid (Below.refl _ _)⟩
  case round =>
    obtain ⟨k, hk, rfl, rfl, HB⟩ := hrel
    by_cases hlt : k < q.length
    · obtain ⟨ad, rfl, hb, m0, m1, m2, m3, m4, m5⟩ := (HR3.out.below HB.out).nd_at hlt
      have HT := Lib.hid (maskL_take fragD q k hlt)
      have hmem := getD_mem hlt
      obtain ⟨x, hx⟩ : ∃ x, q.getD k nd0 = x := ⟨_, rfl⟩
      rw [hx] at m0 m1 m2 m3 m4 m5 HT hmem
      have l1 := add_cell m1
      have l2 := add_cell m2
      have l3 := add_cell m3
      have l4 := add_cell m4
      have l5 := add_cell m5
      have HGX := Lib.hid (HG.out x hmem)
      have hor := or_small (maskL fragD (q.take k)) (fragD x) (HTK.out k) (HLT.out x hmem)
      rw [← HT.out] at hor
      have HA : Hid (∀ o w', Below (wr.alloc o).heap.size (wr.alloc o) w' → Below w1.heap.size w1 w') := Lib.hid (fun o w' h => (HB.out.alloc HB.out.size o).trans (h.mono (by have := HB.out.size; simp; omega)))
      clear hx hmem
      generalize fragD x = z at *
      generalize maskL fragD (q.take k) = mk at *
      generalize hmk : maskL fragD (q.take (k + 1)) = mk2 at *
      have HMK := Lib.hid hmk
      clear hmk
      go_wp2_with fail
      refine (HGX.out _).mono ?_
      rintro e w3 ⟨rfl, hb3⟩
      have HB3 := Lib.hid (HA.out _ _ hb3)
      clear hb3 m0 m1 m2 m3 m4 m5 l1 l2 l3 l4 l5
      go_wp2
      go_roundw
      case rel => exact ⟨k + 1, by omega, by go_num, by rw [HMK.out], HB3⟩
      case measure => simp [intOf]; omega
    · have hkq : k = q.length := by omega
      have HE : Hid (q.take k = q) := Lib.hid (by rw [hkq, List.take_length])
      rw [HE.out]
      clear hlt
      go_wp2
      go_ret
      exact ⟨rfl, HB1.out.trans (HB.out.mono HB1.out.size)⟩
theorem pFrags_any (f : List Nd) (A : Option Addr) (n c : Nat) (w : World) (hR : Reads w w.heap.size 6 A n (nds f)) (hm : n ≤ maxLen) :
    Calls Tryd.prog 18 #[.slice A n c] w fun e w' => e = .returned (.int .i64 (maskL fragD (compF f) : Int)) ∧ Below w.heap.size w w' := by
  have HC := Lib.hid (col_frag f A n c w hR hm)
  generalize maskL fragD (compF f) = z at *
  clear hR
  go_enter Tryd.func18, Tryd.ntmps18
  go_wp2_with fail
  refine (HC.out).mono ?_
  rintro e w1 ⟨rfl, hb1⟩
  have HB1 := Lib.hid hb1
  clear hb1
  go_wp2
  go_ret
  exact ⟨rfl, HB1.out⟩
set_option maxRecDepth 100000 in
set_option maxHeartbeats 4000000 in
theorem col_fact (f : List Nd) (A : Option Addr) (n c : Nat) (w : World) (hR : Reads w w.heap.size 6 A n (nds f)) (hm : n ≤ maxLen) :
    Calls Tryd.prog 38 #[.slice A n c, .func (Fn.func 68) #[] #[]] w fun e w' => e = .returned (.int .i64 (maskL factD (compF f) : Int)) ∧ Below w.heap.size w w' := by
  have HC := Lib.hid (pCompact_any f A n c w hR hm)
  have HG : Hid (∀ x, x ∈ compF f → ∀ W, Calls Tryd.prog 68 #[.agg #[.int .i64 x.op, .int .i64 x.i, .int .i64 x.e, .int .i64 x.g, .int .i64 x.x, .int .i64 x.y]] W fun e w' => e = .returned (.int .i64 (factD x : Int)) ∧ Below W.heap.size W w') := Lib.hid (fun x hx W => factsOf_any x (compF_fld f x hx) W)
  have HLT : Hid (∀ x, x ∈ compF f → factD x < 512) := Lib.hid (fun x hx => factD_lt (compF_fld f x hx))
  have hq63 : (compF f).length ≤ maxLen := Nat.le_trans (compF_le f) (by rw [hR.nd_len]; exact hm)
  unfold maxLen at hq63
  generalize compF f = q at *
  have HTK : Hid (∀ k, maskL factD (q.take k) < 512) := Lib.hid (fun k => maskL_lt _ _ (fun x hx => HLT.out x (List.mem_of_mem_take hx)))
  clear hR
  go_enter Tryd.func38, Tryd.ntmps38
  go_wp2_with fail
  refine (HC.out).mono ?_
  rintro e w1 ⟨A3, c3, rfl, hR3, hb1⟩
  have HR3 := Lib.hid hR3
  have HB1 := Lib.hid hb1
  clear hR3 hb1
  go_wp2
  go_loopw [5, 7, 11] (fun v u i wr => ∃ k : Nat, k ≤ q.length ∧ i = .int .i64 k ∧ v = .int .i64 ((maskL factD (q.take k) : Nat) : Int) ∧ Hid (Below w1.heap.size w1 wr)) (fun _ _ i _ => q.length - (intOf i).toNat)
  case atStart => exact ⟨0, Nat.zero_le _, rfl, rfl, Lib.hid (Below.refl _ _)⟩
  case round =>
    obtain ⟨k, hk, rfl, rfl, HB⟩ := hrel
    by_cases hlt : k < q.length
    · obtain ⟨ad, rfl, hb, m0, m1, m2, m3, m4, m5⟩ := (HR3.out.below HB.out).nd_at hlt
      have HT := Lib.hid (maskL_take factD q k hlt)
      have hmem := getD_mem hlt
      obtain ⟨x, hx⟩ : ∃ x, q.getD k nd0 = x := ⟨_, rfl⟩
      rw [hx] at m0 m1 m2 m3 m4 m5 HT hmem
      have l1 := add_cell m1
      have l2 := add_cell m2
      have l3 := add_cell m3
      have l4 := add_cell m4
      have l5 := add_cell m5
      have HGX := Lib.hid (HG.out x hmem)
      have hor := or_small (maskL factD (q.take k)) (factD x) (HTK.out k) (HLT.out x hmem)
      rw [← HT.out] at hor
      have HA : Hid (∀ o w', Below (wr.alloc o).heap.size (wr.alloc o) w' → Below w1.heap.size w1 w') := Lib.hid (fun o w' h => (HB.out.alloc HB.out.size o).trans (h.mono (by have := HB.out.size; simp; omega)))
      clear hx hmem
      generalize factD x = z at *
      generalize maskL factD (q.take k) = mk at *
      generalize hmk : maskL factD (q.take (k + 1)) = mk2 at *
      have HMK := Lib.hid hmk
      clear hmk
      go_wp2_with fail
      refine (HGX.out _).mono ?_
      rintro e w3 ⟨rfl, hb3⟩
      have HB3 := Lib.hid (HA.out _ _ hb3)
      clear hb3 m0 m1 m2 m3 m4 m5 l1 l2 l3 l4 l5
      go_wp2
      go_roundw
      case rel => exact ⟨k + 1, by omega, by go_num, by rw [HMK.out], HB3⟩
      case measure => simp [intOf]; omega
    · have hkq : k = q.length := by omega
      have HE : Hid (q.take k = q) := Lib.hid (by rw [hkq, List.take_length])
      rw [HE.out]
      clear hlt
      go_wp2
      go_ret
      exact ⟨rfl, HB1.out.trans (HB.out.mono HB1.out.size)⟩
theorem pFacts_any (f : List Nd) (A : Option Addr) (n c : Nat) (w : World) (hR : Reads w w.heap.size 6 A n (nds f)) (hm : n ≤ maxLen) :
    Calls Tryd.prog 44 #[.slice A n c] w fun e w' => e = .returned (.int .i64 (maskL factD (compF f) : Int)) ∧ Below w.heap.size w w' := by
  have HC := Lib.hid (col_fact f A n c w hR hm)
  generalize maskL factD (compF f) = z at *
  clear hR
  go_enter Tryd.func44, Tryd.ntmps44
  go_wp2_with fail
  refine (HC.out).mono ?_
  rintro e w1 ⟨rfl, hb1⟩
  have HB1 := Lib.hid hb1
  clear hb1
  go_wp2
  go_ret
  exact ⟨rfl, HB1.out⟩
set_option maxRecDepth 100000 in
set_option maxHeartbeats 4000000 in
theorem col_agent (f : List Nd) (A : Option Addr) (n c : Nat) (w : World) (hR : Reads w w.heap.size 6 A n (nds f)) (hm : n ≤ maxLen) :
    Calls Tryd.prog 38 #[.slice A n c, .func (Fn.func 67) #[] #[]] w fun e w' => e = .returned (.int .i64 (maskL agentD (compF f) : Int)) ∧ Below w.heap.size w w' := by
  have HC := Lib.hid (pCompact_any f A n c w hR hm)
  have HG : Hid (∀ x, x ∈ compF f → ∀ W, Calls Tryd.prog 67 #[.agg #[.int .i64 x.op, .int .i64 x.i, .int .i64 x.e, .int .i64 x.g, .int .i64 x.x, .int .i64 x.y]] W fun e w' => e = .returned (.int .i64 (agentD x : Int)) ∧ Below W.heap.size W w') := Lib.hid (fun x hx W => agentsOf_any x (compF_fld f x hx) W)
  have HLT : Hid (∀ x, x ∈ compF f → agentD x < 512) := Lib.hid (fun x hx => agentD_lt (compF_fld f x hx))
  have hq63 : (compF f).length ≤ maxLen := Nat.le_trans (compF_le f) (by rw [hR.nd_len]; exact hm)
  unfold maxLen at hq63
  generalize compF f = q at *
  have HTK : Hid (∀ k, maskL agentD (q.take k) < 512) := Lib.hid (fun k => maskL_lt _ _ (fun x hx => HLT.out x (List.mem_of_mem_take hx)))
  clear hR
  go_enter Tryd.func38, Tryd.ntmps38
  go_wp2_with fail
  refine (HC.out).mono ?_
  rintro e w1 ⟨A3, c3, rfl, hR3, hb1⟩
  have HR3 := Lib.hid hR3
  have HB1 := Lib.hid hb1
  clear hR3 hb1
  go_wp2
  go_loopw [5, 7, 11] (fun v u i wr => ∃ k : Nat, k ≤ q.length ∧ i = .int .i64 k ∧ v = .int .i64 ((maskL agentD (q.take k) : Nat) : Int) ∧ Hid (Below w1.heap.size w1 wr)) (fun _ _ i _ => q.length - (intOf i).toNat)
  case atStart => exact ⟨0, Nat.zero_le _, rfl, rfl, Lib.hid (Below.refl _ _)⟩
  case round =>
    obtain ⟨k, hk, rfl, rfl, HB⟩ := hrel
    by_cases hlt : k < q.length
    · obtain ⟨ad, rfl, hb, m0, m1, m2, m3, m4, m5⟩ := (HR3.out.below HB.out).nd_at hlt
      have HT := Lib.hid (maskL_take agentD q k hlt)
      have hmem := getD_mem hlt
      obtain ⟨x, hx⟩ : ∃ x, q.getD k nd0 = x := ⟨_, rfl⟩
      rw [hx] at m0 m1 m2 m3 m4 m5 HT hmem
      have l1 := add_cell m1
      have l2 := add_cell m2
      have l3 := add_cell m3
      have l4 := add_cell m4
      have l5 := add_cell m5
      have HGX := Lib.hid (HG.out x hmem)
      have hor := or_small (maskL agentD (q.take k)) (agentD x) (HTK.out k) (HLT.out x hmem)
      rw [← HT.out] at hor
      have HA : Hid (∀ o w', Below (wr.alloc o).heap.size (wr.alloc o) w' → Below w1.heap.size w1 w') := Lib.hid (fun o w' h => (HB.out.alloc HB.out.size o).trans (h.mono (by have := HB.out.size; simp; omega)))
      clear hx hmem
      generalize agentD x = z at *
      generalize maskL agentD (q.take k) = mk at *
      generalize hmk : maskL agentD (q.take (k + 1)) = mk2 at *
      have HMK := Lib.hid hmk
      clear hmk
      go_wp2_with fail
      refine (HGX.out _).mono ?_
      rintro e w3 ⟨rfl, hb3⟩
      have HB3 := Lib.hid (HA.out _ _ hb3)
      clear hb3 m0 m1 m2 m3 m4 m5 l1 l2 l3 l4 l5
      go_wp2
      go_roundw
      case rel => exact ⟨k + 1, by omega, by go_num, by rw [HMK.out], HB3⟩
      case measure => simp [intOf]; omega
    · have hkq : k = q.length := by omega
      have HE : Hid (q.take k = q) := Lib.hid (by rw [hkq, List.take_length])
      rw [HE.out]
      clear hlt
      go_wp2
      go_ret
      exact ⟨rfl, HB1.out.trans (HB.out.mono HB1.out.size)⟩
theorem pAgents_any (f : List Nd) (A : Option Addr) (n c : Nat) (w : World) (hR : Reads w w.heap.size 6 A n (nds f)) (hm : n ≤ maxLen) :
    Calls Tryd.prog 43 #[.slice A n c] w fun e w' => e = .returned (.int .i64 (maskL agentD (compF f) : Int)) ∧ Below w.heap.size w w' := by
  have HC := Lib.hid (col_agent f A n c w hR hm)
  generalize maskL agentD (compF f) = z at *
  clear hR
  go_enter Tryd.func43, Tryd.ntmps43
  go_wp2_with fail
  refine (HC.out).mono ?_
  rintro e w1 ⟨rfl, hb1⟩
  have HB1 := Lib.hid hb1
  clear hb1
  go_wp2
  go_ret
  exact ⟨rfl, HB1.out⟩
end Go.Proofs.YtopkmcoblndokaaDoor
