/- Layer 6: texts joined: Ma Tb Td Uo Up Ur Ut. -/
import Derived.Test.YtenbhalnpiahaaaGreatDoorJa
import Derived.Test.YtenbhalnpiahaaaGreatDoorJg
import Derived.Test.YtenbhalnpiahaaaGreatDoorJh
import Derived.Test.YtenbhalnpiahaaaGreatDoorJi
import Derived.Test.YtenbhalnpiahaaaGreatDoorJk
import Derived.Laws.ResultCell
/- Layer 5: the canonical list of a formula is a formula. -/
namespace Go.Proofs.Ws
open Go
/-- the fields of a node that do not depend on its place -/
def fldOk (n : Nd) : Prop := known n.op = true ∧ ((n.op = 3 ∨ hasAgent n.op = true ∨ n.op = 17 ∨ n.i = 0) ∧ (n.op = 17 ∨ n.e = 0) ∧ (hasGroup n.op = true ∨ n.g = 0)) ∧ rangeOk n = true
theorem formOk_iff (n : Nd) (k : Nat) : formOk n (k : Int) = true ↔ opsOk n k ∧ ((n.op = 3 ∨ hasAgent n.op = true ∨ n.op = 17 ∨ n.i = 0) ∧ (n.op = 17 ∨ n.e = 0) ∧ (hasGroup n.op = true ∨ n.g = 0)) := by
  unfold formOk opsOk
  simp only [Bool.and_eq_true, Bool.or_eq_true, decide_eq_true_eq]
  by_cases hx : usesX n.op = true <;> by_cases hy : usesY n.op = true <;> simp [hx, hy, and_assoc, or_assoc]
theorem nodeErr_iff (n : Nd) (k : Nat) : nodeErr n (k : Int) = 0 ↔ opsOk n k ∧ fldOk n := by
  constructor
  · intro h
    obtain ⟨h1, h2, h3⟩ := nodeErr_ok h
    obtain ⟨h4, h5⟩ := (formOk_iff n k).1 h2
    exact ⟨h4, h1, h5, h3⟩
  · rintro ⟨h4, h1, h5, h3⟩
    have h2 := (formOk_iff n k).2 ⟨h4, h5⟩
    unfold nodeErr
    rw [h1, h2, h3]; rfl
theorem errFrom_zero (l : List Nd) : ∀ (m k : Nat), l.length - k ≤ m → (∀ j, k ≤ j → j < l.length → nodeErr (l.getD j nd0) (j : Int) = 0) → errFrom k (l.drop k) = 0 := by
  intro m
  induction m with
  | zero => intro k h _; rw [List.drop_of_length_le (by omega)]; rfl
  | succ m ih =>
    intro k h he
    by_cases hk : k < l.length
    · rw [List.drop_eq_getElem_cons hk]
      have hg : l.getD k nd0 = l[k] := by simp [hk]
      have h0 := he k (Nat.le_refl _) hk
      rw [hg] at h0
      show (if nodeErr l[k] (k : Int) ≠ 0 then nodeErr l[k] (k : Int) else errFrom (k + 1) (l.drop (k + 1))) = 0
      rw [h0, if_neg (by simp)]
      exact ih (k + 1) (by omega) (fun j h1 h2 => he j (by omega) h2)
    · rw [List.drop_of_length_le (by omega)]; rfl
theorem fErr_zero {l : List Nd} (hne : l ≠ []) (hl : l.length ≤ 200) (h : ∀ j, j < l.length → opsOk (l.getD j nd0) j ∧ fldOk (l.getD j nd0)) : fErr l = 0 := by
  have h0 : l.length ≠ 0 := by simpa using hne
  unfold fErr
  rw [if_neg h0, if_neg (by omega)]
  have := errFrom_zero l l.length 0 (by omega) (fun j _ hj => (nodeErr_iff _ j).2 (h j hj))
  simpa using this
theorem fErr_fld {l : List Nd} (h : fErr l = 0) : ∀ n ∈ l, fldOk n := by
  intro n hn
  obtain ⟨j, hj, hj2⟩ := List.getElem_of_mem hn
  have := (nodeErr_iff _ j).1 ((fErr_ok h).2.2 j hj)
  rw [show l.getD j nd0 = n from by simp [hj, hj2]] at this
  exact this.2
theorem getD_mem {l : List Nd} {j : Nat} (h : j < l.length) : l.getD j nd0 ∈ l := by
  rw [show l.getD j nd0 = l[j] from by simp [h]]; exact List.getElem_mem h
theorem canT_fld {f : List Nd} (hf : opsL f) (hF : ∀ n ∈ f, fldOk n) {i : Nat} (hi : i < f.length) : ∀ n ∈ canT (treeAt f i), fldOk n :=
  finT_all (P := fldOk) (treeAt f i) (treeAt_ok hf (i + 1) i (by omega) hi) (treeAt_all hf (fun n hn => hF n hn) (i + 1) i (by omega) hi) (fun n hn => absurd hn (by simp))
theorem finT_ne (t : Tr) (o : List Nd) : (finT t o).2 ≠ [] := fun e => by have := finT_lt t o; rw [e] at this; simp at this
theorem canT_ok {f : List Nd} (hf : opsL f) (hF : ∀ n ∈ f, fldOk n) {i : Nat} (hi : i < f.length) (hl : (canT (treeAt f i)).length ≤ 200) : fErr (canT (treeAt f i)) = 0 :=
  fErr_zero (finT_ne _ _) hl (fun _ hj => ⟨canT_ops (treeAt_ok hf (i + 1) i (by omega) hi) _ hj, canT_fld hf hF hi _ (getD_mem hj)⟩)
theorem compF_tree {f : List Nd} (h : fErr f = 0) : compF f = canT (treeAt f (f.length - 1)) := by
  unfold compF; rw [if_pos h, canonF_tree (fErr_ops h) (fErr_ok h).1]
end Go.Proofs.Ws
namespace Go.Proofs.YtenbhalnpiahaaaGreatDoor
open Go.RowKit Go.Proofs.Ws Go.Maps
theorem compF_ok {f : List Nd} (h : fErr f = 0) : fErr (compF f) = 0 := by
  have hne : f.length ≠ 0 := by simpa using (fErr_ok h).1
  have hl := compF_le f
  have h2 := (fErr_ok h).2.1
  rw [compF_tree h] at hl ⊢
  exact canT_ok (fErr_ops h) (fErr_fld h) (by omega) (by omega)
theorem compF_fld (f : List Nd) : ∀ n ∈ compF f, fldOk n := by
  by_cases h : fErr f = 0
  · exact fErr_fld (compF_ok h)
  · unfold compF; rw [if_neg h]; intro n hn; simp at hn
theorem own_cap {w : World} {base size n c : Nat} {e : TypeId} {A : Option Addr} {xs : List Value} (h : w.ownsRow base e size (.slice A n c) n xs) : n ≤ c := by
  rcases h.2 with ⟨hv, h0⟩ | ⟨g, cap, cur, hv, _, _, hle, _⟩
  · omega
  · injection hv with _ _ h3
    omega
/-- a list of lists of nodes -/
structure LL (W : World) (base : Nat) (v : Value) (ls : List (List Nd)) : Prop where
  row : ∃ vs, W.ownsRow base 25 1 v ls.length vs ∧ ∀ j, j < ls.length → ∃ A c, vs[j]? = some (.slice A (ls.getD j []).length c) ∧ W.ownsRow 0 65 6 (.slice A (ls.getD j []).length c) (ls.getD j []).length (nds (ls.getD j []))
theorem LL.nil (W : World) (base : Nat) : LL W base (.slice none 0 0) [] := ⟨[], World.ownsRow_nil _ _ _ _, fun j hj => absurd hj (by simp)⟩
theorem LL.below {W W' : World} {base : Nat} {v : Value} {ls : List (List Nd)} (h : LL W base v ls) (hb : Below W.heap.size W W') : LL W' base v ls := by
  obtain ⟨vs, h1, h2⟩ := h.row
  refine ⟨vs, own_keep1 h1 (fun g hg => hb.block g (h1.lt g hg).2), fun j hj => ?_⟩
  obtain ⟨A, c, h3, h4⟩ := h2 j hj
  exact ⟨A, c, h3, own_keep1 h4 (fun g hg => hb.block g (h4.lt g hg).2)⟩
theorem own_type {W : World} {b size n : Nat} {e : TypeId} {v : Value} {xs : List Value} (h : W.ownsRow b e size v n xs) {g : Nat} (hg : v.ownBlock = some g) : ∃ cur, W.heap[g]? = some (.cells cur e (0, 0)) := by
  rcases h.2 with ⟨rfl, _⟩ | ⟨g2, cap, cur, rfl, _, h2, _⟩
  · cases hg
  · have e2 : g2 = g := by injection hg
    subst e2
    exact ⟨cur, h2⟩
theorem own_apart {W : World} {b b2 size size2 n n2 : Nat} {e e2 : TypeId} {v v2 : Value} {xs xs2 : List Value} (h : W.ownsRow b e size v n xs) (h2 : W.ownsRow b2 e2 size2 v2 n2 xs2) (hne : e ≠ e2) {g : Nat} (hg : v.ownBlock = some g) : v2.ownBlock ≠ some g := by
  intro hg2
  obtain ⟨c1, k1⟩ := own_type h hg
  obtain ⟨c2, k2⟩ := own_type h2 hg2
  rw [k1] at k2
  injection k2 with k2
  injection k2 with _ k3
  exact hne k3
theorem LL.app {W w3 : World} {base : Nat} {v v' : Value} {ls : List (List Nd)} {l : List Nd} {A : Option Addr} {c : Nat} {o : Obj} {vs : List Value} (h1 : W.ownsRow base 25 1 v ls.length vs)
    (h2 : ∀ j, j < ls.length → ∃ A c, vs[j]? = some (.slice A (ls.getD j []).length c) ∧ W.ownsRow 0 65 6 (.slice A (ls.getD j []).length c) (ls.getD j []).length (nds (ls.getD j [])))
    (hR : W.ownsRow 0 65 6 (.slice A l.length c) l.length (nds l))
    (hown : w3.ownsRow base 25 1 v' (ls.length + 1) (vs ++ [.slice A l.length c])) (hg : (W.alloc o).grownBy w3 v.ownBlock) : LL w3 base v' (ls ++ [l]) := by
  have hvl : vs.length = ls.length := by have := h1.1; omega
  have hlen : (ls ++ [l]).length = ls.length + 1 := by simp
  have keep : ∀ (m : List Nd) (A' : Option Addr) (c' : Nat), W.ownsRow 0 65 6 (.slice A' m.length c') m.length (nds m) → w3.ownsRow 0 65 6 (.slice A' m.length c') m.length (nds m) := by
    intro m A' c' hr
    refine own_keep1 hr (fun g hgg => ?_)
    have hlt := (hr.lt g hgg).2
    exact (hg.block g (Nat.lt_of_lt_of_le hlt (by simp)) (fun e => own_apart hr h1 (by decide) hgg e.symm)).trans (Below.heap_alloc W o g hlt)
  refine ⟨vs ++ [.slice A l.length c], by rw [hlen]; exact hown, fun j hj => ?_⟩
  rw [hlen] at hj
  by_cases e : j = ls.length
  · subst e
    have e1 : (ls ++ [l]).getD ls.length [] = l := by rw [List.getD_eq_getElem?_getD]; simp
    rw [e1]
    exact ⟨A, c, by rw [← hvl]; simp, keep l A c hR⟩
  · have hj2 : j < ls.length := by omega
    have e1 : (ls ++ [l]).getD j [] = ls.getD j [] := by rw [List.getD_eq_getElem?_getD, List.getElem?_append_left hj2, ← List.getD_eq_getElem?_getD]
    rw [e1]
    obtain ⟨A2, c2, h3, h4⟩ := h2 j hj2
    exact ⟨A2, c2, by rw [List.getElem?_append_left (by omega)]; exact h3, keep _ A2 c2 h4⟩
end Go.Proofs.YtenbhalnpiahaaaGreatDoor
/- Layer 6 as plain mathematics: what is read is the canonical list of a tree. -/
namespace Go.Proofs.Ws
open Go
def Rule.loop : Rule → Option Nat
  | .iffL x => some x
  | .orL x => some x
  | .andL x => some x
  | _ => none
end Go.Proofs.Ws
namespace Go.Proofs.YtenbhalnpiahaaaGreatDoor
open Go.RowKit Go.Proofs.Ws Go.Maps
instance (n : Nd) : Decidable (fldOk n) := by unfold fldOk; infer_instance
theorem obind_ok {r : Option PRes} {k : Nat → PSt → Option PRes} {v : Nat} {s' : PSt} (h : obind r k = some (.ok v s')) : ∃ v1 s1, r = some (.ok v1 s1) ∧ k v1 s1 = some (.ok v s') := by
  unfold obind at h
  split at h
  · rename_i v1 s1 ; exact ⟨v1, s1, rfl, h⟩
  · injection h with h; cases h
  · cases h
theorem expect_ok {E : PEnv} {w : ByteArray} {s s' : PSt} {k : PSt → Option PRes} {v : Nat} (h : expectP E w s k = some (.ok v s')) : k s.adv = some (.ok v s') := by
  unfold expectP at h
  split at h
  · exact h
  · injection h with h; cases h
/-- the fields of a node are in their ranges, and its names are in the signature -/
def okE (E : PEnv) (n : Nd) : Prop := fldOk n ∧ (n.op = 3 → n.i < (E.F.length : Int)) ∧ (hasAgent n.op = true → n.i < (E.A.length : Int)) ∧ n.g < ((2 ^ E.A.length : Nat) : Int)
theorem okE_plain {E : PEnv} {op : Int} (h : fldOk ⟨op, 0, 0, 0, 0, 0⟩) (h3 : op ≠ 3) (ha : hasAgent op = false) : okE E ⟨op, 0, 0, 0, 0, 0⟩ :=
  ⟨h, (fun e => absurd e h3), (fun e => by rw [show hasAgent op = true from e] at ha; cases ha), (by have := Nat.two_pow_pos E.A.length; show (0 : Int) < _; omega)⟩
/-- the tree is what was read from the list on -/
def FT (E : PEnv) (o : List Nd) (t : Tr) (v : Nat) (l : List Nd) : Prop := trOk t ∧ trAll (okE E) t ∧ finT t o = (v, l)
theorem FT.leaf {E : PEnv} {n : Nd} {s s' : PSt} {v : Nat} (hb : bare n = n) (hf : okE E n) (hx : usesX n.op = false) (h : s.add n = .ok v s') : FT E s.nodes (.leaf n) v s'.nodes := by
  have hy : usesY n.op = false := by
    cases h : usesY n.op with
    | false => rfl
    | true => have := usesY_X h; rw [hx] at this; cases this
  unfold PSt.add at h
  injection h with h1 h2
  refine ⟨⟨hx, hy, hb⟩, hf, ?_⟩
  show putNd s.nodes n = _
  rw [← h2, ← h1]
theorem FT.un {E : PEnv} {n : Nd} {o : List Nd} {t : Tr} {s s' : PSt} {x v : Nat} (ht : FT E o t x s.nodes) (hb : bare n = n) (hf : okE E n) (hx : usesX n.op = true) (hy : usesY n.op = false) (h : s.add { n with x := (x : Int) } = .ok v s') : FT E o (.un n t) v s'.nodes := by
  obtain ⟨h1, h2, h3⟩ := ht
  unfold PSt.add at h
  injection h with h4 h5
  refine ⟨⟨hx, hy, hb, h1⟩, ⟨hf, h2⟩, ?_⟩
  show putNd (finT t o).2 { n with x := ((finT t o).1 : Int) } = _
  rw [h3, ← h4, ← h5]
theorem FT.bin {E : PEnv} {n : Nd} {o : List Nd} {t t2 : Tr} {l : List Nd} {s s' : PSt} {x y v : Nat} (ht : FT E o t x l) (ht2 : FT E l t2 y s.nodes) (hb : bare n = n) (hf : okE E n) (hx : usesX n.op = true) (hy : usesY n.op = true) (h : s.add { n with x := (x : Int), y := (y : Int) } = .ok v s') : FT E o (.bin n t t2) v s'.nodes := by
  obtain ⟨h1, h2, h3⟩ := ht
  obtain ⟨k1, k2, k3⟩ := ht2
  unfold PSt.add at h
  injection h with h4 h5
  refine ⟨⟨hx, hy, hb, h1, k1⟩, ⟨hf, h2, k2⟩, ?_⟩
  show putNd (finT t2 (finT t o).2).2 { n with x := ((finT t o).1 : Int), y := ((finT t2 (finT t o).2).1 : Int) } = _
  rw [h3, k3, ← h4, ← h5]
/-- the lists of a signature are short -/
structure ShortE (E : PEnv) : Prop where
  a : E.A.length ≤ 4
  f : E.F.length ≤ 8
  x : E.X.length ≤ 8
theorem idx_lt (l : List ByteArray) (w : ByteArray) (h : ¬ Lib.idxOfS l w < 0) : (Lib.idxOfS l w).toNat < l.length := by
  have hm : w ∈ l := (Lib.idxOfS_nonneg_iff l w).1 (by omega)
  obtain ⟨k, h1, h2, _⟩ := idx_mem hm
  omega
theorem name_ok {E : PEnv} {what : Nat} {s s' : PSt} {v : Nat} (h : some (nameP E what s) = some (.ok v s')) : v < (if what = 0 then E.F else if what = 1 then E.A else E.X).length ∧ s'.nodes = s.nodes := by
  injection h with h
  unfold nameP at h
  generalize (if what = 0 then E.F else if what = 1 then E.A else E.X) = L at *
  split at h
  · cases h
  · split at h
    · cases h
    · rename_i h2
      injection h with h3 h4
      rw [← h3, ← h4]
      exact ⟨idx_lt _ _ h2, rfl⟩
theorem number_ok {E : PEnv} {s s' : PSt} {v : Nat} (h : some (numberP E s) = some (.ok v s')) : v < 8 ∧ s'.nodes = s.nodes := by
  injection h with h
  unfold numberP at h
  split at h
  · cases h
  · split at h
    · cases h
    · rename_i h2
      injection h with h3 h4
      rw [← h3, ← h4]
      exact ⟨by omega, rfl⟩
theorem agents_ok {E : PEnv} : ∀ (n g : Nat) (s s' : PSt) (v : Nat), 1 ≤ g → g < 2 ^ E.A.length → agentsL E n g s = some (.ok v s') → 1 ≤ v ∧ v < 2 ^ E.A.length ∧ s'.nodes = s.nodes := by
  intro n
  induction n with
  | zero => intro g s s' v _ _ h; cases h
  | succ n ih =>
    intro g s s' v h1 h2 h
    unfold agentsL at h
    split at h
    · obtain ⟨b, s1, hb, h3⟩ := obind_ok h
      obtain ⟨hbl, hbn⟩ := name_ok hb
      split at h3
      · injection h3 with h3; cases h3
      · have hbl4 : b < E.A.length := by simpa using hbl
        have hp : 2 ^ b < 2 ^ E.A.length := Nat.pow_lt_pow_right (by decide) hbl4
        have ho : g ||| 2 ^ b < 2 ^ E.A.length := Nat.or_lt_two_pow h2 hp
        have hg1 : 1 ≤ g ||| 2 ^ b := Nat.le_trans h1 (Nat.left_le_or)
        obtain ⟨a1, a2, a3⟩ := ih _ _ _ _ hg1 ho h3
        exact ⟨a1, a2, by rw [a3, hbn]; rfl⟩
    · injection h with h
      injection h with h3 h4
      rw [← h3, ← h4]
      exact ⟨h1, h2, rfl⟩
/-- what a rule has read -/
def ReadP (E : PEnv) (rule : Rule) (s : PSt) (v : Nat) (s' : PSt) : Prop :=
  match rule.loop with
  | some x => ∀ o tx, FT E o tx x s.nodes → ∃ t, FT E o t v s'.nodes
  | none => ∃ t, FT E s.nodes t v s'.nodes
theorem fld_agent' {op : Int} (ho : op = 9 ∨ op = 10 ∨ op = 14 ∨ op = 15) {a : Nat} (h : a < 4) : fldOk ⟨op, a, 0, 0, 0, 0⟩ := by
  have ha : a = 0 ∨ a = 1 ∨ a = 2 ∨ a = 3 := by omega
  rcases ho with rfl | rfl | rfl | rfl <;> rcases ha with rfl | rfl | rfl | rfl <;> decide
theorem fld_group' {op : Int} (ho : op = 11 ∨ op = 12 ∨ op = 13) {g : Nat} (h1 : 1 ≤ g) (h : g < 16) : fldOk ⟨op, 0, 0, g, 0, 0⟩ := by
  have hr : rangeOk ⟨op, 0, 0, (g : Int), 0, 0⟩ = true := by
    rcases ho with rfl | rfl | rfl
    all_goals
      unfold rangeOk
      simp only [Bool.and_eq_true, Bool.or_eq_true, beq_iff_eq, decide_eq_true_eq]
      refine ⟨⟨Or.inl (by decide), Or.inl (by decide)⟩, Or.inr ⟨by omega, ?_⟩⟩
      show (g : Int) ≤ 15
      omega
  rcases ho with rfl | rfl | rfl
  all_goals exact ⟨rfl, ⟨Or.inr (Or.inr (Or.inr rfl)), Or.inr rfl, Or.inl rfl⟩, hr⟩
theorem fld_num' {op : Int} {a e : Nat} (h : a < 8) (he : e < 8) (ho : (op = 3 ∧ e = 0) ∨ op = 17) : fldOk ⟨op, a, e, 0, 0, 0⟩ := by
  rcases ho with ⟨rfl, rfl⟩ | rfl
  · refine ⟨rfl, ⟨Or.inl rfl, Or.inr rfl, Or.inr rfl⟩, ?_⟩
    unfold rangeOk
    simp only [Bool.and_eq_true, Bool.or_eq_true, beq_iff_eq, decide_eq_true_eq]
    refine ⟨⟨Or.inr ⟨by omega, ?_⟩, Or.inl (by decide)⟩, Or.inl (by decide)⟩
    show (a : Int) < 8
    omega
  · refine ⟨rfl, ⟨Or.inr (Or.inr (Or.inl rfl)), Or.inl rfl, Or.inr rfl⟩, ?_⟩
    unfold rangeOk
    simp only [Bool.and_eq_true, Bool.or_eq_true, beq_iff_eq, decide_eq_true_eq]
    refine ⟨⟨Or.inr ⟨by omega, ?_⟩, Or.inr ⟨by omega, ?_⟩⟩, Or.inl (by decide)⟩
    · show (a : Int) < 8
      omega
    · show (e : Int) < 8
      omega
theorem fld_agent {E : PEnv} (hE : ShortE E) {op : Int} (ho : op = 9 ∨ op = 10 ∨ op = 14 ∨ op = 15) {a : Nat} (h : a < E.A.length) : okE E ⟨op, a, 0, 0, 0, 0⟩ :=
  ⟨fld_agent' ho (Nat.lt_of_lt_of_le h hE.a), fun e => by dsimp only at e; omega, fun _ => by show (a : Int) < _; omega, by have := Nat.two_pow_pos E.A.length; show (0 : Int) < _; omega⟩
theorem fld_group {E : PEnv} (hE : ShortE E) {op : Int} (ho : op = 11 ∨ op = 12 ∨ op = 13) {g : Nat} (h1 : 1 ≤ g) (h : g < 2 ^ E.A.length) : okE E ⟨op, 0, 0, g, 0, 0⟩ := by
  have h4 : 2 ^ E.A.length ≤ 2 ^ 4 := Nat.pow_le_pow_right (by decide) hE.a
  refine ⟨fld_group' ho h1 (by omega), fun e => by dsimp only at e; omega, fun e => ?_, by show (g : Int) < _; omega⟩
  dsimp only at e
  rcases ho with rfl | rfl | rfl <;> cases e
theorem fld_num {E : PEnv} (hE : ShortE E) {op : Int} {a e : Nat} (he : e < 8) (ho : (op = 3 ∧ e = 0 ∧ a < E.F.length) ∨ (op = 17 ∧ a < E.X.length)) : okE E ⟨op, a, e, 0, 0, 0⟩ := by
  have hg : (0 : Int) < ((2 ^ E.A.length : Nat) : Int) := by have := Nat.two_pow_pos E.A.length; omega
  rcases ho with ⟨rfl, rfl, h⟩ | ⟨rfl, h⟩
  · exact ⟨fld_num' (Nat.lt_of_lt_of_le h hE.f) he (Or.inl ⟨rfl, rfl⟩), fun _ => by show (a : Int) < _; omega, (fun e => by cases e), hg⟩
  · exact ⟨fld_num' (Nat.lt_of_lt_of_le h hE.x) he (Or.inr rfl), (fun e => by cases e), (fun e => by cases e), hg⟩
set_option maxHeartbeats 2000000 in
theorem run_read {E : PEnv} (hE : ShortE E) : ∀ (n : Nat) (rule : Rule) (s s' : PSt) (v : Nat), runP E n rule s = some (.ok v s') → ReadP E rule s v s' := by
  intro n
  induction n with
  | zero => intro rule s s' v h; cases h
  | succ n ih =>
    intro rule s s' v h
    have loop1 : ∀ {sg : ByteArray} {op : Int} {x : Nat} {r : Rule} {k : Nat → Rule} (_ : r.loop = none) (_ : ∀ a, (k a).loop = some a) (_ : okE E ⟨op, 0, 0, 0, 0, 0⟩) (_ : usesX op = true) (_ : usesY op = true),
        (if tkP E s = sg then obind (runP E n r s.adv) fun y s => obind (some (s.add ⟨op, 0, 0, 0, x, y⟩)) fun a s => runP E n (k a) s else some (.ok x s)) = some (.ok v s') → ∀ o tx, FT E o tx x s.nodes → ∃ t, FT E o t v s'.nodes := by
      intro sg op x r k hr hk hf hux huy h o tx ht
      split at h
      · obtain ⟨y, s1, h1, h2⟩ := obind_ok h
        obtain ⟨a, s2, h3, h4⟩ := obind_ok h2
        have i1 := ih _ _ _ _ h1
        unfold ReadP at i1
        rw [hr] at i1
        obtain ⟨t2, ht2⟩ := i1
        injection h3 with h3
        have hb := FT.bin (n := ⟨op, 0, 0, 0, 0, 0⟩) ht ht2 rfl hf hux huy h3
        have i2 := ih _ _ _ _ h4
        unfold ReadP at i2
        rw [hk] at i2
        exact i2 o _ hb
      · injection h with h
        injection h with h3 h4
        rw [← h3, ← h4]
        exact ⟨tx, ht⟩
    cases rule with
    | formula =>
      unfold runP at h
      obtain ⟨x, s1, h1, h2⟩ := obind_ok h
      obtain ⟨t, ht⟩ := ih _ _ _ _ h1
      exact ih _ _ _ _ h2 _ t ht
    | or =>
      unfold runP at h
      obtain ⟨x, s1, h1, h2⟩ := obind_ok h
      obtain ⟨t, ht⟩ := ih _ _ _ _ h1
      exact ih _ _ _ _ h2 _ t ht
    | and =>
      unfold runP at h
      obtain ⟨x, s1, h1, h2⟩ := obind_ok h
      obtain ⟨t, ht⟩ := ih _ _ _ _ h1
      exact ih _ _ _ _ h2 _ t ht
    | iffL x => unfold runP at h; exact loop1 (r := .implies) (k := .iffL) rfl (fun _ => rfl) (okE_plain (by decide) (by decide) rfl) rfl rfl h
    | orL x => unfold runP at h; exact loop1 (r := .and) (k := .orL) rfl (fun _ => rfl) (okE_plain (by decide) (by decide) rfl) rfl rfl h
    | andL x => unfold runP at h; exact loop1 (r := .pre) (k := .andL) rfl (fun _ => rfl) (okE_plain (by decide) (by decide) rfl) rfl rfl h
    | implies =>
      unfold runP at h
      obtain ⟨x, s1, h1, h2⟩ := obind_ok h
      obtain ⟨t, ht⟩ := ih _ _ _ _ h1
      split at h2
      · obtain ⟨y, s2, h3, h4⟩ := obind_ok h2
        obtain ⟨t2, ht2⟩ := ih _ _ _ _ h3
        injection h4 with h4
        exact ⟨_, FT.bin (n := ⟨7, 0, 0, 0, 0, 0⟩) ht ht2 rfl (okE_plain (by decide) (by decide) rfl) rfl rfl h4⟩
      · injection h2 with h2
        injection h2 with h3 h4
        rw [← h3, ← h4]
        exact ⟨t, ht⟩
    | time =>
      unfold runP at h
      obtain ⟨x, s1, h1, h2⟩ := obind_ok h
      obtain ⟨t, ht⟩ := ih _ _ _ _ h1
      split at h2
      · obtain ⟨y, s2, h3, h4⟩ := obind_ok h2
        obtain ⟨t2, ht2⟩ := ih _ _ _ _ h3
        injection h4 with h4
        exact ⟨_, FT.bin (n := ⟨19, 0, 0, 0, 0, 0⟩) ht ht2 rfl (okE_plain (by decide) (by decide) rfl) rfl rfl h4⟩
      · split at h2
        · obtain ⟨y, s2, h3, h4⟩ := obind_ok h2
          obtain ⟨t2, ht2⟩ := ih _ _ _ _ h3
          injection h4 with h4
          exact ⟨_, FT.bin (n := ⟨21, 0, 0, 0, 0, 0⟩) ht ht2 rfl (okE_plain (by decide) (by decide) rfl) rfl rfl h4⟩
        · injection h2 with h2
          injection h2 with h3 h4
          rw [← h3, ← h4]
          exact ⟨t, ht⟩
    | pre =>
      have unR : ∀ {op : Int} {s1 : PSt}, s1.nodes = s.nodes → usesX op = true → usesY op = false → okE E ⟨op, 0, 0, 0, 0, 0⟩ →
          (obind (runP E n .pre s1) fun x s => some (s.add ⟨op, 0, 0, 0, x, 0⟩)) = some (.ok v s') → ∃ t, FT E s.nodes t v s'.nodes := by
        intro op s1 hs hux huy hf h
        obtain ⟨x, s2, h1, h2⟩ := obind_ok h
        obtain ⟨t, ht⟩ := ih _ _ _ _ h1
        injection h2 with h2
        rw [hs] at ht
        exact ⟨_, FT.un (n := ⟨op, 0, 0, 0, 0, 0⟩) ht rfl hf hux huy h2⟩
      have unI : ∀ {op i e g : Int} {s1 : PSt}, s1.nodes = s.nodes → usesX op = true → usesY op = false → okE E ⟨op, i, e, g, 0, 0⟩ →
          (obind (runP E n .pre s1) fun x s => some (s.add ⟨op, i, e, g, x, 0⟩)) = some (.ok v s') → ∃ t, FT E s.nodes t v s'.nodes := by
        intro op i e g s1 hs hux huy hf h
        obtain ⟨x, s2, h1, h2⟩ := obind_ok h
        obtain ⟨t, ht⟩ := ih _ _ _ _ h1
        injection h2 with h2
        rw [hs] at ht
        exact ⟨_, FT.un (n := ⟨op, i, e, g, 0, 0⟩) ht rfl hf hux huy h2⟩
      have binI : ∀ {op i g : Int} {c : Nat} {l : List Nd} {t : Tr} {s1 : PSt}, FT E s.nodes t c s1.nodes → usesX op = true → usesY op = true → okE E ⟨op, i, 0, g, 0, 0⟩ →
          (expectP E ⟨#[93]⟩ s1 fun s => obind (runP E n .pre s) fun x s => some (s.add ⟨op, i, 0, g, c, x⟩)) = some (.ok v s') → ∃ t, FT E s.nodes t v s'.nodes := by
        intro op i g c l t s1 ht hux huy hf h
        have h := expect_ok h
        obtain ⟨x, s2, h1, h2⟩ := obind_ok h
        obtain ⟨t2, ht2⟩ := ih _ _ _ _ h1
        injection h2 with h2
        exact ⟨_, FT.bin (n := ⟨op, i, 0, g, 0, 0⟩) ht ht2 rfl hf hux huy h2⟩
      have agR : ∀ {op : Int}, (op = 9 ∨ op = 10 ∨ op = 15) →
          (expectP E ⟨#[91]⟩ s.adv fun s => obind (some (nameP E 1 s)) fun a s => expectP E ⟨#[93]⟩ s fun s => obind (runP E n .pre s) fun x s => some (s.add ⟨op, a, 0, 0, x, 0⟩)) = some (.ok v s') → ∃ t, FT E s.nodes t v s'.nodes := by
        intro op ho h
        obtain ⟨a, s1, h1, h2⟩ := obind_ok (expect_ok h)
        obtain ⟨ha, hn⟩ := name_ok h1
        have ha4 : a < E.A.length := by simpa using ha
        refine unI (s1 := s1.adv) (by rw [← show s.adv.adv.nodes = s.nodes from rfl, ← hn]; rfl) ?_ ?_ (fld_agent hE (by omega) ha4) (expect_ok h2)
        · rcases ho with rfl | rfl | rfl <;> rfl
        · rcases ho with rfl | rfl | rfl <;> rfl
      have grR : ∀ {op : Int}, (op = 11 ∨ op = 12) →
          (expectP E ⟨#[91]⟩ s.adv fun s => obind (some (nameP E 1 s)) fun a s => obind (agentsL E (E.ws.length + 1) (2 ^ a) s) fun g s => expectP E ⟨#[93]⟩ s fun s => obind (runP E n .pre s) fun x s => some (s.add ⟨op, 0, 0, g, x, 0⟩)) = some (.ok v s') → ∃ t, FT E s.nodes t v s'.nodes := by
        intro op ho h
        obtain ⟨a, s1, h1, h2⟩ := obind_ok (expect_ok h)
        obtain ⟨ha, hn⟩ := name_ok h1
        have ha4 : a < E.A.length := by simpa using ha
        obtain ⟨g, s2, h3, h4⟩ := obind_ok h2
        obtain ⟨g1, g2, g3⟩ := agents_ok _ _ _ _ _ (Nat.two_pow_pos a) (Nat.pow_lt_pow_right (by decide) ha4) h3
        refine unI (s1 := s2.adv) (by show s2.nodes = _; rw [g3, hn]; rfl) ?_ ?_ (fld_group hE (by omega) g1 g2) (expect_ok h4)
        · rcases ho with rfl | rfl <;> rfl
        · rcases ho with rfl | rfl <;> rfl
      have barR : ∀ {s1 : PSt} {k : Nat → PSt → Option PRes}, s1.nodes = s.nodes → (if tkP E s1 = ⟨#[124]⟩ then obind (runP E n .formula s1.adv) k else obind (some (s1.add ⟨1, 0, 0, 0, 0, 0⟩)) k) = some (.ok v s') →
          ∃ c s2 t, FT E s.nodes t c s2.nodes ∧ k c s2 = some (.ok v s') := by
        intro s1 k hs h
        split at h
        · obtain ⟨c, s2, h1, h2⟩ := obind_ok h
          obtain ⟨t, ht⟩ := ih _ _ _ _ h1
          rw [show s1.adv.nodes = s.nodes from hs] at ht
          exact ⟨c, s2, t, ht, h2⟩
        · obtain ⟨c, s2, h1, h2⟩ := obind_ok h
          injection h1 with h1
          have := FT.leaf (E := E) (n := ⟨1, 0, 0, 0, 0, 0⟩) rfl (okE_plain (by decide) (by decide) rfl) rfl h1
          rw [hs] at this
          exact ⟨c, s2, _, this, h2⟩
      unfold runP at h
      dsimp only at h
      show ∃ t, FT E s.nodes t v s'.nodes
      by_cases c0 : tkP E s = ⟨#[126]⟩
      · rw [if_pos c0] at h
        exact unR (op := 4) (s1 := s.adv) rfl rfl rfl (okE_plain (by decide) (by decide) rfl) h
      rw [if_neg c0] at h
      by_cases c1 : tkP E s = ⟨#[110, 101, 120, 116]⟩
      · rw [if_pos c1] at h
        exact unR (op := 18) (s1 := s.adv) rfl rfl rfl (okE_plain (by decide) (by decide) rfl) h
      rw [if_neg c1] at h
      by_cases c2 : tkP E s = ⟨#[112, 114, 101, 118]⟩
      · rw [if_pos c2] at h
        exact unR (op := 20) (s1 := s.adv) rfl rfl rfl (okE_plain (by decide) (by decide) rfl) h
      rw [if_neg c2] at h
      by_cases c3 : tkP E s = ⟨#[75]⟩
      · rw [if_pos c3] at h
        exact agR (by omega) h
      rw [if_neg c3] at h
      by_cases c4 : tkP E s = ⟨#[77]⟩
      · rw [if_pos c4] at h
        exact agR (by omega) h
      rw [if_neg c4] at h
      by_cases c5 : tkP E s = ⟨#[83]⟩
      · rw [if_pos c5] at h
        exact agR (by omega) h
      rw [if_neg c5] at h
      by_cases c6 : tkP E s = ⟨#[66]⟩
      · rw [if_pos c6] at h
        obtain ⟨a, s1, h1, h2⟩ := obind_ok (expect_ok h)
        obtain ⟨ha, hn⟩ := name_ok h1
        have ha4 : a < E.A.length := by simpa using ha
        obtain ⟨c, s2, t, ht, h3⟩ := barR (by rw [hn]; rfl) h2
        exact binI (l := []) ht rfl rfl (fld_agent hE (by omega) ha4) h3
      rw [if_neg c6] at h
      by_cases c7 : tkP E s = ⟨#[69]⟩
      · rw [if_pos c7] at h
        exact grR (by omega) h
      rw [if_neg c7] at h
      by_cases c8 : tkP E s = ⟨#[68]⟩
      · rw [if_pos c8] at h
        exact grR (by omega) h
      rw [if_neg c8] at h
      by_cases c9 : tkP E s = ⟨#[67]⟩
      · rw [if_pos c9] at h
        obtain ⟨a, s1, h1, h2⟩ := obind_ok (expect_ok h)
        obtain ⟨ha, hn⟩ := name_ok h1
        have ha4 : a < E.A.length := by simpa using ha
        obtain ⟨g, s2, h3, h4⟩ := obind_ok h2
        obtain ⟨g1, g2, g3⟩ := agents_ok _ _ _ _ _ (Nat.two_pow_pos a) (Nat.pow_lt_pow_right (by decide) ha4) h3
        obtain ⟨c, s3, t, ht, h5⟩ := barR (by rw [g3, hn]; rfl) h4
        exact binI (l := []) ht rfl rfl (fld_group hE (by omega) g1 g2) h5
      rw [if_neg c9] at h
      by_cases c10 : tkP E s = ⟨#[91]⟩
      · rw [if_pos c10] at h
        split at h
        · obtain ⟨c, s1, h1, h2⟩ := obind_ok h
          obtain ⟨t, ht⟩ := ih _ _ _ _ h1
          exact binI (l := []) ht rfl rfl (okE_plain (by decide) (by decide) rfl) h2
        · obtain ⟨a, s1, h1, h2⟩ := obind_ok h
          obtain ⟨ha, hn⟩ := name_ok h1
          have ha8 : a < E.X.length := by simpa using ha
          obtain ⟨e, s2, h3, h4⟩ := obind_ok (expect_ok h2)
          obtain ⟨he, hn2⟩ := number_ok h3
          exact unI (s1 := s2.adv) (by show s2.nodes = _; rw [hn2]; show s1.nodes = _; rw [hn]; rfl) rfl rfl (fld_num hE he (Or.inr ⟨rfl, ha8⟩)) (expect_ok h4)
      rw [if_neg c10] at h
      by_cases c11 : tkP E s = ⟨#[116, 114, 117, 101]⟩
      · rw [if_pos c11] at h
        injection h with h
        exact ⟨_, FT.leaf (n := ⟨1, 0, 0, 0, 0, 0⟩) (s := s.adv) rfl (okE_plain (by decide) (by decide) rfl) rfl h⟩
      rw [if_neg c11] at h
      by_cases c12 : tkP E s = ⟨#[102, 97, 108, 115, 101]⟩
      · rw [if_pos c12] at h
        injection h with h
        exact ⟨_, FT.leaf (n := ⟨2, 0, 0, 0, 0, 0⟩) (s := s.adv) rfl (okE_plain (by decide) (by decide) rfl) rfl h⟩
      rw [if_neg c12] at h
      by_cases c13 : tkP E s = ⟨#[40]⟩
      · rw [if_pos c13] at h
        obtain ⟨x, s1, h1, h2⟩ := obind_ok h
        obtain ⟨t, ht⟩ := ih _ _ _ _ h1
        have h2 := expect_ok h2
        injection h2 with h2
        injection h2 with h3 h4
        rw [← h3, ← h4]
        exact ⟨t, ht⟩
      · rw [if_neg c13] at h
        obtain ⟨a, s1, h1, h2⟩ := obind_ok h
        obtain ⟨ha, hn⟩ := name_ok h1
        have ha8 : a < E.F.length := by simpa using ha
        injection h2 with h2
        have := FT.leaf (E := E) (n := ⟨3, a, 0, 0, 0, 0⟩) rfl (fld_num hE (e := 0) (by decide) (Or.inl ⟨rfl, rfl, ha8⟩)) rfl h2
        rw [hn] at this
        exact ⟨_, this⟩
end Go.Proofs.YtenbhalnpiahaaaGreatDoor
/- Layer 6 as plain mathematics: what Parse returns, as a function of the text. -/
namespace Go.Proofs.YtenbhalnpiahaaaGreatDoor
open Go.RowKit Go.Proofs.Ws Go.Maps
theorem okE_bare {E : PEnv} {n : Nd} : okE E (bare n) ↔ okE E n := Iff.rfl
/-- the nodes that were read are the canonical list of a tree, with names of the signature -/
theorem read_final {E : PEnv} (hE : ShortE E) {n v : Nat} {s : PSt} (h : runP E n .formula ⟨0, []⟩ = some (.ok v s)) :
    ∃ t, trOk t ∧ s.nodes = canT t ∧ (∀ m ∈ s.nodes, okE E m) := by
  obtain ⟨t, h1, h2, h3⟩ := run_read hE n .formula ⟨0, []⟩ s v h
  have e : s.nodes = canT t := by unfold canT; rw [h3]
  refine ⟨t, h1, e, fun m hm => ?_⟩
  rw [e] at hm
  exact okE_bare.1 (finT_all (P := okE E) t h1 h2 (fun n hn => absurd hn (by simp)) m hm)
theorem read_formula {E : PEnv} (hE : ShortE E) {n v : Nat} {s : PSt} (h : runP E n .formula ⟨0, []⟩ = some (.ok v s)) (hl : s.nodes.length ≤ 200) :
    fErr s.nodes = 0 ∧ compF s.nodes = s.nodes ∧ canonF s.nodes = s.nodes := by
  obtain ⟨t, h1, h2, h3⟩ := read_final hE h
  have hok : fErr s.nodes = 0 := by
    refine fErr_zero ?_ hl (fun j hj => ⟨?_, (h3 _ (getD_mem hj)).1⟩)
    · rw [h2]; exact canT_ne t
    · have := canT_ops h1
      rw [← h2] at this
      exact this j hj
  have hc : canonF s.nodes = s.nodes := by
    have := canonF_canT h1
    rw [← h2] at this
    exact this
  exact ⟨hok, by unfold compF; rw [if_pos hok, hc], hc⟩
/-- the result of the parser: nodes, position, error -/
structure PV where
  nodes : List Nd
  pos : Nat
  err : Int
def endP (T : Toks) (size t : Nat) : Nat := if t < T.ats.length then T.ats.getD t 0 else size
def parseV (A F X : List ByteArray) (text : ByteArray) : PV :=
  if sigErr A F X ≠ 0 then ⟨[], 0, sigErr A F X⟩ else
  if (tokV text).err ≠ 0 then ⟨[], (tokV text).pos, (tokV text).err⟩ else
  match runP ⟨A, F, X, (tokV text).words⟩ (10 * (tokV text).words.length + 7) .formula ⟨0, []⟩ with
  | none => ⟨[], 0, 0⟩
  | some (.err t e) => ⟨[], endP (tokV text) text.size t, e⟩
  | some (.ok _ s) =>
    if s.next < (tokV text).words.length then ⟨[], endP (tokV text) text.size s.next, 4⟩ else
    if 200 < s.nodes.length then ⟨[], (tokV text).ats.getD 0 0, 8⟩ else ⟨s.nodes, 0, 0⟩
/-- with enough fuel there is a result -/
theorem run_some (E : PEnv) : ∃ r, runP E (10 * E.ws.length + 7) .formula ⟨0, []⟩ = some r := by
  obtain ⟨r, h, _, _⟩ := run_total E (10 * E.ws.length + 7) .formula ⟨0, []⟩ (by simp [Rule.rank])
  exact ⟨r, h⟩
end Go.Proofs.YtenbhalnpiahaaaGreatDoor
/- Layer 6: what the machine's end says about the result of Parse. -/
namespace Go.Proofs.Ws
open Go
theorem tokF_bound : ∀ (n : Nat) (l : List UInt8) (i : Nat) (ws : List ByteArray) (at_ : List Nat), ws.length = at_.length →
    (tokF n l i ws at_).words.length = (tokF n l i ws at_).ats.length ∧ (tokF n l i ws at_).words.length ≤ ws.length + l.length ∧ ∀ x ∈ (tokF n l i ws at_).words, x ∈ ws ∨ x.size ≤ l.length := by
  intro n
  induction n with
  | zero => intro l i ws at_ h; exact ⟨h, Nat.le_add_right _ _, fun x hx => .inl hx⟩
  | succ n ih =>
    intro l i ws at_ h
    cases l with
    | nil => exact ⟨h, Nat.le_add_right _ _, fun x hx => .inl hx⟩
    | cons c r =>
      have hr : (c :: r).length = r.length + 1 := rfl
      rw [tokF_eq]
      by_cases hs : spaceN c.toNat = true
      · rw [if_pos hs]
        obtain ⟨h1, h2, h3⟩ := ih r (i + 1) ws at_ h
        exact ⟨h1, by omega, fun x hx => (h3 x hx).imp id (fun h => by omega)⟩
      · rw [if_neg hs]
        by_cases hp : partL (c :: r) = 0
        · rw [if_pos hp]
          exact ⟨rfl, Nat.zero_le _, fun x hx => by simp at hx⟩
        · rw [if_neg hp]
          have hle := partL_le (c :: r)
          obtain ⟨h1, h2, h3⟩ := ih ((c :: r).drop (partL (c :: r))) (i + partL (c :: r)) (ws ++ [⟨((c :: r).take (partL (c :: r))).toArray⟩]) (at_ ++ [i]) (by simp [h])
          rw [List.length_drop, List.length_append, List.length_singleton] at h2
          refine ⟨h1, by omega, fun x hx => ?_⟩
          rcases h3 x hx with h4 | h4
          · rcases List.mem_append.1 h4 with h5 | h5
            · exact .inl h5
            · refine .inr ?_
              rw [List.mem_singleton.1 h5]
              show ((c :: r).take _).toArray.size ≤ _
              rw [List.size_toArray, List.length_take]
              omega
          · refine .inr ?_
            rw [List.length_drop] at h4
            omega
theorem tokV_bound (t : ByteArray) : (tokV t).words.length = (tokV t).ats.length ∧ (tokV t).words.length ≤ 4000 ∧ ∀ x ∈ (tokV t).words, x.size ≤ 4000 := by
  unfold tokV
  by_cases h : 4000 < t.size
  · rw [if_pos h]
    exact ⟨rfl, Nat.zero_le _, fun x hx => by simp at hx⟩
  · rw [if_neg h]
    obtain ⟨h1, h2, h3⟩ := tokF_bound (t.size + 1) t.data.toList 0 [] [] rfl
    have hl : t.data.toList.length = t.size := rfl
    refine ⟨h1, ?_, fun x hx => ?_⟩
    · simp only [List.length_nil] at h2; omega
    · rcases h3 x hx with h4 | h4
      · simp at h4
      · omega
end Go.Proofs.Ws
namespace Go.Proofs.YtenbhalnpiahaaaGreatDoor
open Go.RowKit Go.Proofs.Ws Go.Maps
def finV (T : Toks) (size : Nat) : PRes → PV
  | .err t e => ⟨[], endP T size t, e⟩
  | .ok _ s => if s.next < T.words.length then ⟨[], endP T size s.next, 4⟩ else if 200 < s.nodes.length then ⟨[], T.ats.getD 0 0, 8⟩ else ⟨s.nodes, 0, 0⟩
theorem parseV_fin {A F X : List ByteArray} {t : ByteArray} (hs : sigErr A F X = 0) (ht : (tokV t).err = 0) {r : PRes} (hr : runP ⟨A, F, X, (tokV t).words⟩ (10 * (tokV t).words.length + 7) .formula ⟨0, []⟩ = some r) :
    parseV A F X t = finV (tokV t) t.size r := by
  unfold parseV
  rw [if_neg (by rw [hs]; decide), if_neg (by rw [ht]; decide), hr]
  cases r <;> rfl
def envS (A F X : List ByteArray) (t : ByteArray) : SEnv := ⟨⟨A, F, X, (tokV t).words⟩, (tokV t).ats, t.size⟩
/-- the state behind the check that all tokens are read -/
def lastS (E : SEnv) (s : SS) : SS := if s.next < E.P.ws.length then failS E s.next 4 s else s
theorem parse_end {A F X : List ByteArray} {t : ByteArray} (hs : sigErr A F X = 0) (ht : (tokV t).err = 0) :
    ∃ v s', mS (envS A F X t) (10 * (tokV t).words.length + 14) .formula ⟨0, [], 0, 0⟩ = some (v, s') ∧
      ((lastS (envS A F X t) s').e ≠ 0 → ∃ p : Nat, parseV A F X t = ⟨[], p, (lastS (envS A F X t) s').e⟩ ∧ (p : Int) = (lastS (envS A F X t) s').po) ∧
      ((lastS (envS A F X t) s').e = 0 → 200 < s'.nodes.length → parseV A F X t = ⟨[], (tokV t).ats.getD 0 0, 8⟩ ∧ 0 < (tokV t).ats.length) ∧
      ((lastS (envS A F X t) s').e = 0 → ¬ 200 < s'.nodes.length → parseV A F X t = ⟨s'.nodes, 0, 0⟩ ∧ compF s'.nodes = s'.nodes) := by
  obtain ⟨b1, b2, _⟩ := tokV_bound t
  obtain ⟨v, s', h1, h2, h3⟩ := machine_end (envS A F X t) b2
  refine ⟨v, s', h1, ?_⟩
  obtain ⟨r, hr⟩ := run_some ⟨A, F, X, (tokV t).words⟩
  have h4 := h3 r hr
  have hpo : ∀ k, posS (envS A F X t) k = (endP (tokV t) t.size k : Int) := fun k => by
    unfold posS endP envS
    dsimp only
    by_cases hk : k < (tokV t).ats.length
    · rw [if_pos hk, if_pos hk]
    · rw [if_neg hk, if_neg hk]
  have hV := parseV_fin hs ht hr
  rw [hV]
  cases r with
  | err t' e =>
    obtain ⟨he, he1, hp1⟩ := h4
    have hl : lastS (envS A F X t) s' = s' := by
      unfold lastS
      split
      · exact failS_bad (by rw [he1]; exact he)
      · rfl
    rw [hl, he1]
    exact ⟨fun _ => ⟨_, rfl, by rw [hp1, hpo]⟩, fun h => absurd h he, fun h => absurd h he⟩
  | ok v0 s0 =>
    obtain ⟨rfl, he0, rfl⟩ := h4
    unfold finV
    dsimp only
    have e1 : (absS s').next = s'.next := rfl
    have e2 : (absS s').nodes = s'.nodes := rfl
    rw [e1, e2]
    by_cases hn : s'.next < (tokV t).words.length
    · have hl : lastS (envS A F X t) s' = { s' with po := posS (envS A F X t) s'.next, e := 4 } := by
        unfold lastS failS
        rw [if_pos (show s'.next < (envS A F X t).P.ws.length from hn), if_pos he0]
      rw [hl, if_pos hn]
      exact ⟨fun _ => ⟨_, rfl, (hpo _).symm⟩, fun h => absurd h (show ¬ ((4 : Int) = 0) by decide), fun h => absurd h (show ¬ ((4 : Int) = 0) by decide)⟩
    · have hl : lastS (envS A F X t) s' = s' := by
        unfold lastS
        rw [if_neg (show ¬ s'.next < (envS A F X t).P.ws.length from hn)]
      rw [hl, if_neg hn]
      refine ⟨fun h => absurd he0 h, fun _ hg => ?_, fun _ hg => ?_⟩
      · rw [if_pos hg]
        refine ⟨rfl, ?_⟩
        have := h2.len
        have e3 : (envS A F X t).P.ws.length = (tokV t).words.length := rfl
        rw [e3] at this
        omega
      · rw [if_neg hg]
        have hsE : ShortE ⟨A, F, X, (tokV t).words⟩ := ⟨(sigErr_ok hs).1, (sigErr_ok hs).2.1, (sigErr_ok hs).2.2.1⟩
        exact ⟨rfl, (read_formula hsE hr (Nat.not_lt.1 hg)).2.1⟩
end Go.Proofs.YtenbhalnpiahaaaGreatDoor
/- Layer 6: Parse of the program. -/
namespace Go.Proofs.YtenbhalnpiahaaaGreatDoor
open Go.RowKit Go.Proofs.Ws Go.Maps
def mkK (E : SEnv) (w : World) (a0 : Option Addr) (n0 c0 : Nat) (a1 : Option Addr) (n1 c1 : Nat) (a2 : Option Addr) (n2 c2 : Nat) (aw : Option Addr) (cw : Nat) (aa : Option Addr) (ca : Nat) : PK :=
  ⟨E, w, w.heap.size + 1, w.heap.size, w.heap.size + 2, a0, n0, c0, a1, n1, c1, a2, n2, c2, aw, cw, aa, ca⟩
theorem PP.begin (E : SEnv) (w : World) (a0 : Option Addr) (n0 c0 : Nat) (a1 : Option Addr) (n1 c1 : Nat) (a2 : Option Addr) (n2 c2 : Nat) (aw : Option Addr) (cw : Nat) (aa : Option Addr) (ca : Nat) (T : TypeId) :
    PP (mkK E w a0 n0 c0 a1 n1 c1 a2 n2 c2 aw cw aa ca) ((w.alloc (.map #[] 0)).alloc (.cells #[.slice a0 n0 c0, .slice a1 n1 c1, .slice a2 n2 c2, .slice aw E.P.ws.length cw, .slice aa E.ats.length ca, .int .i64 (E.size : Int), .int .i64 0, .slice none 0 0, .map (some w.heap.size), .int .i64 0, .int .i64 0] T)) ⟨0, [], 0, 0⟩ := by
  have hb : Below w.heap.size w ((w.alloc (.map #[] 0)).alloc (.cells #[.slice a0 n0 c0, .slice a1 n1 c1, .slice a2 n2 c2, .slice aw E.P.ws.length cw, .slice aa E.ats.length ca, .int .i64 (E.size : Int), .int .i64 0, .slice none 0 0, .map (some w.heap.size), .int .i64 0, .int .i64 0] T)) :=
    ((Below.refl _ w).alloc (Nat.le_refl _) _).alloc (by simp) _
  have hmap := World.ownsMap_made w Tryz.prog 65 (plainElem (H := Unit) Tryz.prog 3)
  have s2 : (w.alloc (.map #[] 0)).heap.size = w.heap.size + 1 := by simp
  generalize w.alloc (.map #[] 0) = wb at *
  have hbx := heap_alloc_new wb (.cells #[.slice a0 n0 c0, .slice a1 n1 c1, .slice a2 n2 c2, .slice aw E.P.ws.length cw, .slice aa E.ats.length ca, .int .i64 (E.size : Int), .int .i64 0, .slice none 0 0, .map (some w.heap.size), .int .i64 0, .int .i64 0] T)
  rw [s2] at hbx
  have hm := ownsMap_keep hmap (Below.heap_alloc wb (.cells #[.slice a0 n0 c0, .slice a1 n1 c1, .slice a2 n2 c2, .slice aw E.P.ws.length cw, .slice aa E.ats.length ca, .int .i64 (E.size : Int), .int .i64 0, .slice none 0 0, .map (some w.heap.size), .int .i64 0, .int .i64 0] T) _ (by omega))
  have s3 : (wb.alloc (.cells #[.slice a0 n0 c0, .slice a1 n1 c1, .slice a2 n2 c2, .slice aw E.P.ws.length cw, .slice aa E.ats.length ca, .int .i64 (E.size : Int), .int .i64 0, .slice none 0 0, .map (some w.heap.size), .int .i64 0, .int .i64 0] T)).heap.size = w.heap.size + 2 := by simp; omega
  generalize wb.alloc (.cells #[.slice a0 n0 c0, .slice a1 n1 c1, .slice a2 n2 c2, .slice aw E.P.ws.length cw, .slice aa E.ats.length ca, .int .i64 (E.size : Int), .int .i64 0, .slice none 0 0, .map (some w.heap.size), .int .i64 0, .int .i64 0] T) = wc at *
  refine ⟨hb, Nat.le_succ _, Nat.le_refl _, ?_, ?_, ?_, ?_, ⟨none, 0, fun j v hj => ?_, World.ownsRow_nil _ _ _ _⟩, fun j => Lib.frozen_of_heap hbx j, ⟨_, hm, MapOf.start⟩, Nat.zero_le _⟩
  · show w.heap.size + 1 ≠ w.heap.size; omega
  · show w.heap.size + 1 < w.heap.size + 2; omega
  · show w.heap.size < w.heap.size + 2; omega
  · show w.heap.size + 2 ≤ wc.heap.size; omega
  · show wc.cell? ⟨w.heap.size + 1, j, none⟩ = some v
    rw [Lib.cell_of_heap hbx]
    rw [← hj]
    show (List.toArray _)[j]? = _
    rw [List.getElem?_toArray]
    rfl
theorem addr_add_zero (ad : Addr) : ad.add 0 = ad := by cases ad; simp [Addr.add]
/-- the two writable things of the parser lie behind what was there -/
theorem PP.low {K : PK} {W : World} {s : SS} (h : PP K W s) : Below K.w0.heap.size K.w0 W := h.be
theorem PP.nodesRow {K : PK} {W : World} {s : SS} (h : PP K W s) : ∃ A c, W.cell? ⟨K.bp, 7, none⟩ = some (.slice A s.nodes.length c) ∧ Reads W W.heap.size 6 A s.nodes.length (nds s.nodes) := by
  obtain ⟨A, c, h1, h2⟩ := h.out
  exact ⟨A, c, h1 7 _ rfl, Reads.of_own h2⟩
set_option maxRecDepth 100000 in
set_option maxHeartbeats 4000000 in
theorem kParse_own (a0 : Option Addr) (n0 c0 : Nat) (a1 : Option Addr) (n1 c1 : Nat) (a2 : Option Addr) (n2 c2 : Nat) (A F X : List ByteArray) (t : ByteArray) (w : World)
    (hS : SigR w w.heap.size (.agg #[.slice a0 n0 c0, .slice a1 n1 c1, .slice a2 n2 c2]) A F X) (hE : EnvS w) (hm : t.size ≤ maxLen) :
    Calls Tryz.prog 14 #[.agg #[.slice a0 n0 c0, .slice a1 n1 c1, .slice a2 n2 c2], .string t] w fun e w' => ∃ A' c', e = .returned (.tuple #[.slice A' (parseV A F X t).nodes.length c', .int .i64 ((parseV A F X t).pos : Int), .int .i64 (parseV A F X t).err]) ∧
      w'.ownsRow w.heap.size 65 6 (.slice A' (parseV A F X t).nodes.length c') (parseV A F X t).nodes.length (nds (parseV A F X t).nodes) ∧ Below w.heap.size w w' := by
  have HX := Lib.hid (@boxed w a0 a1 a2 n0 c0 n1 c1 n2 c2 24)
  have HG : Hid (∀ W, Below (w.heap.size + 1) (w.alloc (.cells #[.slice a0 n0 c0, .slice a1 n1 c1, .slice a2 n2 c2] 24)) W → EnvS W ∧ SigR W W.heap.size (.agg #[.slice a0 n0 c0, .slice a1 n1 c1, .slice a2 n2 c2]) A F X ∧ Below w.heap.size w W ∧ w.heap.size + 1 ≤ W.heap.size) := Lib.hid (fun W hW => by
    have h1 : Below w.heap.size w W := ((Below.refl _ w).alloc (Nat.le_refl _) _).trans (hW.mono (by omega))
    exact ⟨hE.below h1, hS.on h1, h1, by have := hW.size; simpa using this⟩)
  clear hS hE
  have HT := Lib.hid (fun W => kTokens_any t W hm)
  unfold maxLen at hm
  by_cases hs : sigErr A F X = 0
  · by_cases ht : (tokV t).err = 0
    · have HPE := Lib.hid (parse_end hs ht)
      have HTB := Lib.hid (tokV_bound t)
      have HS0 := Lib.hid hs
      have HT0 := Lib.hid ht
      have hts : t.size ≤ 4000 := by
        by_cases h4 : 4000 < t.size
        · have : (tokV t).err = 8 := by unfold tokV; rw [if_pos h4]
          rw [this] at ht
          exact absurd ht (by decide)
        · omega
      rw [ht] at HT
      clear hs ht
      go_enter Tryz.func14, Tryz.ntmps14
      go_wp2_with fail
      refine (pSigCheck_any _ A F X _ (HG.out _ (Below.refl _ _)).2.1 (HG.out _ (Below.refl _ _)).1).mono ?_
      rintro e w1 ⟨rfl, hb⟩
      rw [HS0.out]
      have HB1 : Hid (Below (w.heap.size + 1) (w.alloc (.cells #[.slice a0 n0 c0, .slice a1 n1 c1, .slice a2 n2 c2] 24)) w1) := Lib.hid ((Below.refl _ _).trans (hb.mono (by simp)))
      clear hb
      go_wp2_with fail
      refine (HT.out w1).mono ?_
      rintro e w2 ⟨A1, k1, A2, k2, rfl, hR1, hR2, hb⟩
      have HB2 : Hid (Below (w.heap.size + 1) (w.alloc (.cells #[.slice a0 n0 c0, .slice a1 n1 c1, .slice a2 n2 c2] 24)) w2) := Lib.hid (HB1.out.trans (hb.mono (HG.out _ HB1.out).2.2.2))
      have HR1 := Lib.hid hR1
      have HR2 := Lib.hid hR2
      clear hb hR1 hR2 HB1 HT
      obtain ⟨q0, q1, q2⟩ := HX.out w2 HB2.out
      have hPE : PE (mkK (envS A F X t) w2 a0 n0 c0 a1 n1 c1 a2 n2 c2 A1 k1 A2 k2) :=
        ⟨(HG.out _ HB2.out).2.1, HS0.out, (HG.out _ HB2.out).1, HR1.out, HR2.out, HTB.out.2.1, HTB.out.1 ▸ HTB.out.2.1, HTB.out.2.2⟩
      have HPB := Lib.hid (PP.begin (envS A F X t) w2 a0 n0 c0 a1 n1 c1 a2 n2 c2 A1 k1 A2 k2 61)
      obtain ⟨v, s', hmS, hc1, hc2, hc3⟩ := HPE.out
      have HF := Lib.hid (fun W hW => kFormula_any hPE (10 * (tokV t).words.length + 14) _ s' v W hmS hW)
      have HFA := Lib.hid (fun W hW => kFail_any hPE s'.next 4 s' W hW)
      have HLS : Hid (lastS (envS A F X t) s' = if s'.next < (tokV t).words.length then failS (envS A F X t) s'.next 4 s' else s') := Lib.hid rfl
      have HC1 := Lib.hid hc1
      have HC2 := Lib.hid hc2
      have HC3 := Lib.hid hc3
      have hwl := HTB.out.2.1
      have HWA := Lib.hid HTB.out.1
      have HPE2 := Lib.hid hPE
      clear hmS hc1 hc2 hc3 hPE HPE HTB HR1
      have hmm := @run_makeMap Tryz.prog
      -- the world at the call of formula
      go_wp2_with fail
      refine (HF.out _ HPB.out).mono ?_
      rintro e w3 ⟨rfl, hS3⟩
      clear q0 q1 q2 hmm
      have HS3 := Lib.hid hS3
      have k6 : w3.cell? ⟨w2.heap.size + 1, 6, none⟩ = some (.int .i64 (s'.next : Int)) := hS3.cells.2.2.2.1
      clear hS3 HF HPB
      by_cases hn : s'.next < (tokV t).words.length
      · have d1 : decide ((s'.next : Int) < ((tokV t).words.length : Int)) = true := decide_eq_true (by omega)
        have d2 : decide (s'.next < (tokV t).words.length) = true := decide_eq_true hn
        have HL : Hid (lastS (envS A F X t) s' = failS (envS A F X t) s'.next 4 s') := Lib.hid (by rw [HLS.out, if_pos hn])
        have hne : (failS (envS A F X t) s'.next 4 s').e ≠ 0 := by
          by_cases he : s'.e = 0
          · have : failS (envS A F X t) s'.next 4 s' = { s' with po := posS (envS A F X t) s'.next, e := 4 } := by unfold failS; rw [if_pos he]
            rw [this]; exact (by decide : (4 : Int) ≠ 0)
          · rw [failS_bad he]; exact he
        rw [HL.out] at HC1
        obtain ⟨pz, hpv, hpp⟩ := HC1.out hne
        have HV := Lib.hid hpv
        have HP := Lib.hid hpp
        have hb : ((failS (envS A F X t) s'.next 4 s').e != 0) = true := by rw [bne_iff_ne]; exact hne
        generalize (tokV t).words.length = L at *
        clear HC1 HC2 HC3 HL HLS hpv hpp hne hn HPE2
        go_wp2_with fail
        refine (HFA.out _ HS3.out).mono ?_
        rintro e w4 ⟨rfl, hS4⟩
        have k9 : w4.cell? ⟨w2.heap.size + 1, 9, none⟩ = some (.int .i64 (failS (envS A F X t) s'.next 4 s').po) := hS4.cells.2.2.2.2.1
        have k10 : w4.cell? ⟨w2.heap.size + 1, 10, none⟩ = some (.int .i64 (failS (envS A F X t) s'.next 4 s').e) := hS4.cells.2.2.2.2.2
        have HB4 : Hid (Below w.heap.size w w4) := Lib.hid ((HG.out _ HB2.out).2.2.1.trans (hS4.be.mono (HG.out _ HB2.out).2.2.1.size))
        clear hS4 k6 HS3 HFA
        generalize (failS (envS A F X t) s'.next 4 s').po = po at *
        generalize (failS (envS A F X t) s'.next 4 s').e = er at *
        go_wp2
        go_quiet (fail)
        go_wp2
        (try simp only [Exit.inBlock, Exit.then])
        refine bodyPost_ret (results_tmp3 rfl _ _ _) rfl ?_
        rw [HV.out]
        exact ⟨none, 0, by rw [HP.out]; rfl, World.ownsRow_nil _ _ _ _, below_drewN HB4.out _⟩
      · have d1 : decide ((s'.next : Int) < ((tokV t).words.length : Int)) = false := decide_eq_false (by omega)
        have d2 : decide (s'.next < (tokV t).words.length) = false := decide_eq_false hn
        have HL : Hid (lastS (envS A F X t) s' = s') := Lib.hid (by rw [HLS.out, if_neg hn])
        rw [HL.out] at HC1 HC2 HC3
        have k9 : w3.cell? ⟨w2.heap.size + 1, 9, none⟩ = some (.int .i64 s'.po) := HS3.out.cells.2.2.2.2.1
        have k10 : w3.cell? ⟨w2.heap.size + 1, 10, none⟩ = some (.int .i64 s'.e) := HS3.out.cells.2.2.2.2.2
        have HB3 : Hid (Below w.heap.size w w3) := Lib.hid ((HG.out _ HB2.out).2.2.1.trans (HS3.out.be.mono (HG.out _ HB2.out).2.2.1.size))
        by_cases he : s'.e = 0
        · rw [he] at k10
          obtain ⟨AN, cN, k7, hRN⟩ := HS3.out.nodesRow
          have k7' : w3.cell? ⟨w2.heap.size + 1, 7, none⟩ = some (.slice AN s'.nodes.length cN) := k7
          have HRN := Lib.hid hRN
          by_cases h200 : 200 < s'.nodes.length
          · obtain ⟨hv, h0⟩ := HC2.out he h200
            have HV := Lib.hid hv
            have d3 : decide ((200 : Int) < (s'.nodes.length : Int)) = true := decide_eq_true (by omega)
            have d4 : decide (200 < s'.nodes.length) = true := decide_eq_true h200
            obtain ⟨ad, hA, hb, hc⟩ := ni_at HR2.out h0
            have hc2 := (HS3.out.be.cell (p := ad.add 0) (by rw [block_of_add]; exact hb)).trans hc
            rw [addr_add_zero] at hc2
            have h0' : 0 < (tokV t).ats.length := h0
            subst hA
            generalize (tokV t).words.length = L at *
            generalize (tokV t).ats.getD 0 0 = z at *
            generalize (tokV t).ats.length = L2 at *
            generalize s'.nodes.length = L3 at *
            clear HC1 HC2 HC3 HL HLS hv h0 h200 hn he HPE2 HS3 HFA k7 hRN HRN hb hc HR2
            go_wp2
            go_quiet (fail)
            go_wp2
            (try simp only [Exit.inBlock, Exit.then])
            refine bodyPost_ret (results_tmp3 rfl _ _ _) rfl ?_
            rw [HV.out]
            exact ⟨none, 0, rfl, World.ownsRow_nil _ _ _ _, below_drewN HB3.out _⟩
          · obtain ⟨hv, hcomp⟩ := HC3.out he h200
            have HV := Lib.hid hv
            have HCP := Lib.hid hcomp
            have d3 : decide ((200 : Int) < (s'.nodes.length : Int)) = false := decide_eq_false (by omega)
            have d4 : decide (200 < s'.nodes.length) = false := decide_eq_false h200
            have HCO := Lib.hid (pCompact_own s'.nodes AN s'.nodes.length cN w3 HRN.out (by unfold maxLen; omega))
            rw [HCP.out] at HCO
            generalize (tokV t).words.length = L at *
            clear HC1 HC2 HC3 HL HLS hv h200 hn he HPE2 HS3 HFA k7 hRN HRN hcomp
            go_wp2_with fail
            refine (HCO.out).mono ?_
            rintro e w4 ⟨A4, c4, rfl, hO, hb⟩
            have HO := Lib.hid hO
            have HB4 : Hid (Below w.heap.size w w4) := Lib.hid (HB3.out.trans (hb.mono HB3.out.size))
            clear hO hb
            go_wp2
            (try simp only [Exit.inBlock, Exit.then])
            refine bodyPost_ret (results_tmp3 rfl _ _ _) rfl ?_
            rw [HV.out]
            exact ⟨A4, c4, rfl, own_base HO.out HB3.out.size, HB4.out⟩
        · obtain ⟨pz, hpv, hpp⟩ := HC1.out he
          have HV := Lib.hid hpv
          have HP := Lib.hid hpp
          have hb : (s'.e != 0) = true := by rw [bne_iff_ne]; exact he
          generalize (tokV t).words.length = L at *
          generalize s'.po = po at *
          generalize s'.e = er at *
          clear HC1 HC2 HC3 HL HLS hpv hpp he hn HPE2 HS3 HFA
          go_wp2
          go_quiet (fail)
          go_wp2
          (try simp only [Exit.inBlock, Exit.then])
          refine bodyPost_ret (results_tmp3 rfl _ _ _) rfl ?_
          rw [HV.out]
          exact ⟨none, 0, by rw [HP.out]; rfl, World.ownsRow_nil _ _ _ _, below_drewN HB3.out _⟩
    · have HV : Hid (parseV A F X t = ⟨[], (tokV t).pos, (tokV t).err⟩) := Lib.hid (by unfold parseV; rw [if_neg (by rw [hs]; decide), if_pos ht])
      have hb : ((tokV t).err != 0) = true := by rw [bne_iff_ne]; exact ht
      have HS0 := Lib.hid hs
      rw [HV.out]
      clear hs ht
      go_enter Tryz.func14, Tryz.ntmps14
      go_wp2_with fail
      refine (pSigCheck_any _ A F X _ (HG.out _ (Below.refl _ _)).2.1 (HG.out _ (Below.refl _ _)).1).mono ?_
      rintro e w1 ⟨rfl, hb⟩
      rw [HS0.out]
      have HB1 : Hid (Below (w.heap.size + 1) (w.alloc (.cells #[.slice a0 n0 c0, .slice a1 n1 c1, .slice a2 n2 c2] 24)) w1) := Lib.hid ((Below.refl _ _).trans (hb.mono (by simp)))
      clear hb
      go_wp2_with fail
      refine (HT.out w1).mono ?_
      rintro e w2 ⟨A1, k1, A2, k2, rfl, _, _, hb⟩
      have HB2 : Hid (Below (w.heap.size + 1) (w.alloc (.cells #[.slice a0 n0 c0, .slice a1 n1 c1, .slice a2 n2 c2] 24)) w2) := Lib.hid (HB1.out.trans (hb.mono (HG.out _ HB1.out).2.2.2))
      clear hb HT
      go_wp2
      (try simp only [Exit.inBlock, Exit.then])
      refine bodyPost_ret (results_tmp3 rfl _ _ _) rfl ?_
      exact ⟨none, 0, rfl, World.ownsRow_nil _ _ _ _, (HG.out _ HB2.out).2.2.1⟩
  · have HV : Hid (parseV A F X t = ⟨[], 0, sigErr A F X⟩) := Lib.hid (by unfold parseV; rw [if_pos hs])
    have hb : (sigErr A F X != 0) = true := by rw [bne_iff_ne]; exact hs
    rw [HV.out]
    have HCK := Lib.hid (pSigCheck_any _ A F X _ (HG.out _ (Below.refl _ _)).2.1 (HG.out _ (Below.refl _ _)).1)
    generalize sigErr A F X = er at *
    clear hs
    go_enter Tryz.func14, Tryz.ntmps14
    go_wp2_with fail
    refine (HCK.out).mono ?_
    rintro e w1 ⟨rfl, hb⟩
    have HB1 : Hid (Below (w.heap.size + 1) (w.alloc (.cells #[.slice a0 n0 c0, .slice a1 n1 c1, .slice a2 n2 c2] 24)) w1) := Lib.hid ((Below.refl _ _).trans (hb.mono (by simp)))
    clear hb HT
    go_wp2
    (try simp only [Exit.inBlock, Exit.then])
    refine bodyPost_ret (results_tmp3 rfl _ _ _) rfl ?_
    exact ⟨none, 0, rfl, World.ownsRow_nil _ _ _ _, (HG.out _ HB1.out).2.2.1⟩
end Go.Proofs.YtenbhalnpiahaaaGreatDoor
/- Layer 6: the reference's lists compared, and few. -/
namespace Go.Proofs.YtenbhalnpiahaaaGreatDoor
open Go.RowKit Go.Proofs.Ws Go.Maps
end Go.Proofs.YtenbhalnpiahaaaGreatDoor
/- Layer 6: the signature of the examples, and awake. -/
namespace Go.Proofs.YtenbhalnpiahaaaGreatDoor
open Go.RowKit Go.Proofs.Ws Go.Maps
def exA : List ByteArray := [⟨#[97]⟩, ⟨#[98]⟩]
def exF : List ByteArray := [⟨#[112]⟩, ⟨#[113]⟩, ⟨#[114]⟩]
def exX : List ByteArray := [⟨#[116, 101, 108, 108]⟩]
theorem row_reads' {w : World} {g n : Nat} {l : List ByteArray} {T : TypeId} (h : w.heap[g]? = some (.cells (ss l).toArray T (0, 0))) (hl : l.length = n) : Reads w w.heap.size 1 (some ⟨g, 0, none⟩) n (ss l) :=
  ⟨by rw [ss_length]; omega, fun _ => ⟨_, rfl, (Array.getElem?_eq_some_iff.1 h).1, fun j u hu => by
    rw [addr_zero, Lib.cell_of_heap h]
    simpa using hu⟩⟩
theorem sl_of' {w : World} {g n : Nat} {l : List ByteArray} {T : TypeId} (h : w.heap[g]? = some (.cells (ss l).toArray T (0, 0))) (hl : l.length = n) (hn : n ≤ 20) (hs : ∀ x ∈ l, x.size ≤ maxLen) : SL w w.heap.size (some ⟨g, 0, none⟩) n n l :=
  ⟨row_reads' h hl, (fun e => by cases e), hn, hs, Nat.le_refl _, by omega⟩
theorem three_at (w : World) (z o1 o2 o3 : Array Value) (T0 t1 t2 t3 : TypeId) :
    (((((w.alloc (.cells z T0)).alloc (.cells o1 t1)).alloc (.cells o2 t2)).alloc (.cells o3 t3)).heap[w.heap.size]? = some (.cells z T0 (0, 0))) ∧
    (((((w.alloc (.cells z T0)).alloc (.cells o1 t1)).alloc (.cells o2 t2)).alloc (.cells o3 t3)).heap[w.heap.size + 1]? = some (.cells o1 t1 (0, 0))) ∧
    (((((w.alloc (.cells z T0)).alloc (.cells o1 t1)).alloc (.cells o2 t2)).alloc (.cells o3 t3)).heap[w.heap.size + 1 + 1]? = some (.cells o2 t2 (0, 0))) ∧
    (((((w.alloc (.cells z T0)).alloc (.cells o1 t1)).alloc (.cells o2 t2)).alloc (.cells o3 t3)).heap[w.heap.size + 1 + 1 + 1]? = some (.cells o3 t3 (0, 0))) ∧
    Below w.heap.size w ((((w.alloc (.cells z T0)).alloc (.cells o1 t1)).alloc (.cells o2 t2)).alloc (.cells o3 t3)) := by
  have sz : ∀ (W : World) (o : Obj), (W.alloc o).heap.size = W.heap.size + 1 := fun W o => by simp
  have new : ∀ (W : World) (o : Array Value) (t : TypeId) (k : Nat), k = W.heap.size → (W.alloc (.cells o t)).heap[k]? = some (.cells o t (0, 0)) := fun W o t k hk => by subst hk; exact heap_alloc_new W (.cells o t)
  have keep : ∀ (W : World) (o : Obj) (k : Nat) (x : Obj), W.heap[k]? = some x → (W.alloc o).heap[k]? = some x := fun W o k x h => (Below.heap_alloc W o k (Array.getElem?_eq_some_iff.1 h).1).trans h
  refine ⟨?_, ?_, ?_, ?_, ?_⟩
  · exact keep _ _ _ _ (keep _ _ _ _ (keep _ _ _ _ (new _ _ _ _ rfl)))
  · exact keep _ _ _ _ (keep _ _ _ _ (new _ _ _ _ (by simp only [sz])))
  · exact keep _ _ _ _ (new _ _ _ _ (by simp only [sz]))
  · exact new _ _ _ _ (by simp only [sz])
  · exact ((((Below.refl _ w).alloc (Nat.le_refl _) _).alloc (by simp) _).alloc (by simp; omega) _).alloc (by simp; omega) _
end Go.Proofs.YtenbhalnpiahaaaGreatDoor
