/- Layer 5 as plain mathematics: the canonical list as a function of the tree. -/
import Derived.Test.YtcbmncafmofcpaaKm
namespace Go.Proofs.Ws
open Go
inductive Tr where
  | leaf (n : Nd)
  | un (n : Nd) (a : Tr)
  | bin (n : Nd) (a b : Tr)
deriving DecidableEq
def bare (n : Nd) : Nd := { n with x := 0, y := 0 }
def treeF (f : List Nd) : Nat → Nat → Tr
  | 0, _ => .leaf nd0
  | fuel + 1, i =>
    let n := f.getD i nd0
    if usesY n.op = true then .bin (bare n) (treeF f fuel n.x.toNat) (treeF f fuel n.y.toNat)
    else if usesX n.op = true then .un (bare n) (treeF f fuel n.x.toNat) else .leaf (bare n)
/-- the tree of the node at a place -/
def treeAt (f : List Nd) (i : Nat) : Tr := treeF f (i + 1) i
def finT : Tr → List Nd → Nat × List Nd
  | .leaf n, o => putNd o n
  | .un n a, o => putNd (finT a o).2 { n with x := ((finT a o).1 : Int) }
  | .bin n a b, o => putNd (finT b (finT a o).2).2 { n with x := ((finT a o).1 : Int), y := ((finT b (finT a o).2).1 : Int) }
/-- the tree lies in the list at a number -/
def rep (o : List Nd) : Nat → Tr → Prop
  | k, .leaf n => o[k]? = some n
  | k, .un n a => ∃ x : Nat, o[k]? = some { n with x := (x : Int) } ∧ rep o x a
  | k, .bin n a b => ∃ x y : Nat, o[k]? = some { n with x := (x : Int), y := (y : Int) } ∧ rep o x a ∧ rep o y b
theorem putNd_old {o : List Nd} (h : o.Nodup) {k : Nat} {n : Nd} (hk : o[k]? = some n) : putNd o n = (k, o) := by
  obtain ⟨hl, he⟩ := List.getElem?_eq_some_iff.1 hk
  have hm : n ∈ o := by rw [← he]; exact List.getElem_mem hl
  unfold putNd
  rw [if_pos hm, ← he, List.Nodup.idxOf_getElem h]
theorem finT_old {o : List Nd} (h : o.Nodup) : ∀ (t : Tr) (k : Nat), rep o k t → finT t o = (k, o)
  | .leaf n, k, hr => putNd_old h hr
  | .un n a, k, ⟨x, hk, ha⟩ => by
    unfold finT
    rw [finT_old h a x ha]
    exact putNd_old h hk
  | .bin n a b, k, ⟨x, y, hk, ha, hb⟩ => by
    unfold finT
    rw [finT_old h a x ha, finT_old h b y hb]
    exact putNd_old h hk
theorem rep_mono {o o' : List Nd} (hp : o <+: o') : ∀ (t : Tr) (k : Nat), rep o k t → rep o' k t
  | .leaf n, k, h => by
    obtain ⟨r, rfl⟩ := hp
    have hl : k < o.length := (List.getElem?_eq_some_iff.1 h).1
    show (o ++ r)[k]? = some n
    rw [List.getElem?_append_left hl]; exact h
  | .un n a, k, ⟨x, hk, ha⟩ => by
    refine ⟨x, ?_, rep_mono hp a x ha⟩
    obtain ⟨r, rfl⟩ := hp
    have hl : k < o.length := (List.getElem?_eq_some_iff.1 hk).1
    rw [List.getElem?_append_left hl]; exact hk
  | .bin n a b, k, ⟨x, y, hk, ha, hb⟩ => by
    refine ⟨x, y, ?_, rep_mono hp a x ha, rep_mono hp b y hb⟩
    obtain ⟨r, rfl⟩ := hp
    have hl : k < o.length := (List.getElem?_eq_some_iff.1 hk).1
    rw [List.getElem?_append_left hl]; exact hk
theorem putNd_pre (o : List Nd) (n : Nd) : o <+: (putNd o n).2 := by
  unfold putNd
  split
  · exact List.prefix_refl _
  · exact List.prefix_append _ _
theorem putNd_at (o : List Nd) (n : Nd) : (putNd o n).2[(putNd o n).1]? = some n := by
  unfold putNd
  split
  · rename_i h
    show o[o.idxOf n]? = some n
    rw [List.getElem?_eq_getElem (List.idxOf_lt_length_of_mem h)]
    simp
  · show (o ++ [n])[o.length]? = some n
    simp
theorem putNd_nodup {o : List Nd} (h : o.Nodup) (n : Nd) : (putNd o n).2.Nodup := by
  unfold putNd
  split
  · exact h
  · rename_i hn
    show (o ++ [n]).Nodup
    rw [List.nodup_append]
    exact ⟨h, by simp, fun a ha b hb e => hn (by rw [List.mem_singleton.1 hb] at e; rw [← e]; exact ha)⟩
theorem putNd_len (o : List Nd) (n : Nd) : (putNd o n).2.length ≤ o.length + 1 ∧ (putNd o n).1 < (putNd o n).2.length := by
  refine ⟨?_, (List.getElem?_eq_some_iff.1 (putNd_at o n)).1⟩
  unfold putNd
  split
  · show o.length ≤ _; omega
  · show (o ++ [n]).length ≤ _; simp
theorem finT_pre : ∀ (t : Tr) (o : List Nd), o <+: (finT t o).2
  | .leaf n, o => putNd_pre o n
  | .un _n a, o => (finT_pre a o).trans (putNd_pre _ _)
  | .bin _n a b, o => ((finT_pre a o).trans (finT_pre b _)).trans (putNd_pre _ _)
theorem finT_nodup : ∀ (t : Tr) {o : List Nd}, o.Nodup → (finT t o).2.Nodup
  | .leaf n, _, h => putNd_nodup h n
  | .un _ a, _, h => putNd_nodup (finT_nodup a h) _
  | .bin _ a b, _, h => putNd_nodup (finT_nodup b (finT_nodup a h)) _
theorem finT_rep : ∀ (t : Tr) (o : List Nd), rep (finT t o).2 (finT t o).1 t
  | .leaf n, o => putNd_at o n
  | .un _n a, o => ⟨_, putNd_at _ _, rep_mono (putNd_pre _ _) a _ (finT_rep a o)⟩
  | .bin _n a b, o => ⟨_, _, putNd_at _ _, rep_mono (putNd_pre _ _) a _ (rep_mono (finT_pre b _) a _ (finT_rep a o)), rep_mono (putNd_pre _ _) b _ (finT_rep b _)⟩
/-- what a tree is made of: the fields that an operator does not use are 0, and it has the operands that it uses -/
def trOk : Tr → Prop
  | .leaf n => usesX n.op = false ∧ usesY n.op = false ∧ bare n = n
  | .un n a => usesX n.op = true ∧ usesY n.op = false ∧ bare n = n ∧ trOk a
  | .bin n a b => usesX n.op = true ∧ usesY n.op = true ∧ bare n = n ∧ trOk a ∧ trOk b
/-- the nodes of a tree, without numbers -/
def trAll (P : Nd → Prop) : Tr → Prop
  | .leaf n => P n
  | .un n a => P n ∧ trAll P a
  | .bin n a b => P n ∧ trAll P a ∧ trAll P b
/-- the operands that are used are earlier nodes, the others are 0 -/
def opsOk (n : Nd) (k : Nat) : Prop :=
  (if usesX n.op = true then 0 ≤ n.x ∧ n.x < (k : Int) else n.x = 0) ∧ (if usesY n.op = true then 0 ≤ n.y ∧ n.y < (k : Int) else n.y = 0)
def opsL (f : List Nd) : Prop := ∀ i, i < f.length → opsOk (f.getD i nd0) i
theorem usesY_X {op : Int} (h : usesY op = true) : usesX op = true := by
  unfold usesY at h
  unfold usesX
  simp only [Bool.or_eq_true, Bool.and_eq_true, decide_eq_true_eq] at h ⊢
  omega
theorem getD_some {o : List Nd} {k : Nat} {n : Nd} (h : o[k]? = some n) : o.getD k nd0 = n := by
  rw [List.getD_eq_getElem?_getD, h]; rfl
theorem bare_x {n : Nd} (h : bare n = n) : n.x = 0 ∧ n.y = 0 := by rw [← h]; exact ⟨rfl, rfl⟩
theorem opsL_put {o : List Nd} (h : opsL o) {n : Nd} (hn : opsOk n o.length) : opsL (putNd o n).2 := by
  unfold putNd
  split
  · exact h
  · intro i hi
    have hi2 : i < o.length + 1 := by simpa using hi
    by_cases e : i = o.length
    · subst e
      show opsOk ((o ++ [n]).getD o.length nd0) o.length
      rw [getD_some (n := n) (by simp)]
      exact hn
    · have hl : i < o.length := by omega
      have : (o ++ [n]).getD i nd0 = o.getD i nd0 := by
        rw [List.getD_eq_getElem?_getD, List.getElem?_append_left hl, ← List.getD_eq_getElem?_getD]
      show opsOk ((o ++ [n]).getD i nd0) i
      rw [this]
      exact h i hl
theorem finT_lt (t : Tr) (o : List Nd) : (finT t o).1 < (finT t o).2.length := by
  cases t
  · exact (putNd_len _ _).2
  · exact (putNd_len _ _).2
  · exact (putNd_len _ _).2
theorem finT_ops : ∀ (t : Tr) {o : List Nd}, trOk t → opsL o → opsL (finT t o).2
  | .leaf n, o, ⟨h1, h2, h3⟩, h => by
    refine opsL_put h ⟨?_, ?_⟩
    · rw [if_neg (by simp [h1])]; exact (bare_x h3).1
    · rw [if_neg (by simp [h2])]; exact (bare_x h3).2
  | .un n a, o, ⟨h1, h2, h3, h4⟩, h => by
    have ha := finT_lt a o
    refine opsL_put (finT_ops a h4 h) ⟨?_, ?_⟩
    · show if usesX n.op = true then _ else _
      rw [if_pos h1]
      exact ⟨Int.natCast_nonneg _, by show ((finT a o).1 : Int) < _; omega⟩
    · show if usesY n.op = true then _ else _
      rw [if_neg (by simp [h2])]; exact (bare_x h3).2
  | .bin n a b, o, ⟨h1, h2, h3, h4, h5⟩, h => by
    have ha := finT_lt a o
    have hb := finT_lt b (finT a o).2
    have hp := (finT_pre b (finT a o).2).length_le
    refine opsL_put (finT_ops b h5 (finT_ops a h4 h)) ⟨?_, ?_⟩
    · show if usesX n.op = true then _ else _
      rw [if_pos h1]
      exact ⟨Int.natCast_nonneg _, by show ((finT a o).1 : Int) < _; omega⟩
    · show if usesY n.op = true then _ else _
      rw [if_pos h2]
      exact ⟨Int.natCast_nonneg _, by show ((finT b (finT a o).2).1 : Int) < _; omega⟩
theorem putNd_all {P : Nd → Prop} {o : List Nd} (h : ∀ n ∈ o, P (bare n)) {n : Nd} (hn : P (bare n)) : ∀ m ∈ (putNd o n).2, P (bare m) := by
  unfold putNd
  split
  · exact h
  · intro m hm
    rcases List.mem_append.1 hm with hm | hm
    · exact h m hm
    · rw [List.mem_singleton.1 hm]; exact hn
theorem finT_all {P : Nd → Prop} : ∀ (t : Tr) {o : List Nd}, trOk t → trAll P t → (∀ n ∈ o, P (bare n)) → ∀ n ∈ (finT t o).2, P (bare n)
  | .leaf n, o, ⟨_, _, h3⟩, hp, h => putNd_all h (by rw [h3]; exact hp)
  | .un n a, o, ⟨_, _, h3, h4⟩, ⟨hp, ha⟩, h => putNd_all (finT_all a h4 ha h) (by show P (bare n); rw [h3]; exact hp)
  | .bin n a b, o, ⟨_, _, h3, h4, h5⟩, ⟨hp, ha, hb⟩, h => putNd_all (finT_all b h5 hb (finT_all a h4 ha h)) (by show P (bare n); rw [h3]; exact hp)
theorem opsOk_x {n : Nd} {k : Nat} (h : opsOk n k) (hu : usesX n.op = true) : 0 ≤ n.x ∧ n.x.toNat < k := by
  have := h.1
  rw [if_pos hu] at this
  omega
theorem opsOk_y {n : Nd} {k : Nat} (h : opsOk n k) (hu : usesY n.op = true) : 0 ≤ n.y ∧ n.y.toNat < k := by
  have := h.2
  rw [if_pos hu] at this
  omega
theorem treeF_fuel {f : List Nd} (hf : opsL f) : ∀ (m i : Nat), i < m → i < f.length → treeF f m i = treeAt f i := by
  have key : ∀ (m m' i : Nat), i < m → i < m' → i < f.length → treeF f m i = treeF f m' i := by
    intro m
    induction m with
    | zero => intro m' i h; omega
    | succ m ih =>
      intro m' i h1 h2 hl
      cases m' with
      | zero => omega
      | succ m' =>
        have ho := hf i hl
        unfold treeF
        simp only
        split
        · rename_i hy
          have hx := opsOk_x ho (usesY_X hy)
          have hy2 := opsOk_y ho hy
          rw [ih m' _ (by omega) (by omega) (by omega), ih m' _ (by omega) (by omega) (by omega)]
        · split
          · rename_i _ hx
            have hx := opsOk_x ho hx
            rw [ih m' _ (by omega) (by omega) (by omega)]
          · rfl
  intro m i h hl
  exact key m (i + 1) i h (by omega) hl
theorem treeAt_eq {f : List Nd} (hf : opsL f) {i : Nat} (hi : i < f.length) :
    treeAt f i = (if usesY (f.getD i nd0).op = true then .bin (bare (f.getD i nd0)) (treeAt f (f.getD i nd0).x.toNat) (treeAt f (f.getD i nd0).y.toNat)
      else if usesX (f.getD i nd0).op = true then .un (bare (f.getD i nd0)) (treeAt f (f.getD i nd0).x.toNat) else .leaf (bare (f.getD i nd0))) := by
  have ho := hf i hi
  show treeF f (i + 1) i = _
  unfold treeF
  simp only
  split
  · rename_i hy
    have hx := opsOk_x ho (usesY_X hy)
    have hy2 := opsOk_y ho hy
    rw [treeF_fuel hf i _ hx.2 (by omega), treeF_fuel hf i _ hy2.2 (by omega)]
  · split
    · rename_i _ hx
      have hx := opsOk_x ho hx
      rw [treeF_fuel hf i _ hx.2 (by omega)]
    · rfl
theorem treeAt_ok {f : List Nd} (hf : opsL f) : ∀ (k i : Nat), i < k → i < f.length → trOk (treeAt f i) := by
  intro k
  induction k with
  | zero => intro i h; omega
  | succ k ih =>
    intro i h hi
    have ho := hf i hi
    rw [treeAt_eq hf hi]
    split
    · rename_i hy
      have hx := opsOk_x ho (usesY_X hy)
      have hy2 := opsOk_y ho hy
      exact ⟨usesY_X hy, hy, rfl, ih _ (by omega) (by omega), ih _ (by omega) (by omega)⟩
    · rename_i hy
      split
      · rename_i hx
        have hx2 := opsOk_x ho hx
        exact ⟨hx, Bool.eq_false_iff.2 hy, rfl, ih _ (by omega) (by omega)⟩
      · rename_i hx
        exact ⟨Bool.eq_false_iff.2 hx, Bool.eq_false_iff.2 hy, rfl⟩
theorem treeAt_all {P : Nd → Prop} {f : List Nd} (hf : opsL f) (hP : ∀ n ∈ f, P (bare n)) : ∀ (k i : Nat), i < k → i < f.length → trAll P (treeAt f i) := by
  intro k
  induction k with
  | zero => intro i h; omega
  | succ k ih =>
    intro i h hi
    have ho := hf i hi
    have hp : P (bare (f.getD i nd0)) := by
      have : f.getD i nd0 = f[i] := by simp [hi]
      rw [this]; exact hP _ (List.getElem_mem hi)
    rw [treeAt_eq hf hi]
    split
    · rename_i hy
      have hx := opsOk_x ho (usesY_X hy)
      have hy2 := opsOk_y ho hy
      exact ⟨hp, ih _ (by omega) (by omega), ih _ (by omega) (by omega)⟩
    · split
      · rename_i _ hx
        have hx2 := opsOk_x ho hx
        exact ⟨hp, ih _ (by omega) (by omega)⟩
      · exact hp
/-- a tree that lies in a list is the tree of the list's node -/
theorem rep_tree {o : List Nd} (ho : opsL o) : ∀ (t : Tr) (k : Nat), trOk t → rep o k t → treeAt o k = t
  | .leaf n, k, ⟨h1, h2, h3⟩, hr => by
    have hl := (List.getElem?_eq_some_iff.1 hr).1
    rw [treeAt_eq ho hl, getD_some hr, if_neg (by simp [h2]), if_neg (by simp [h1]), h3]
  | .un n a, k, ⟨h1, h2, h3, h4⟩, ⟨x, hk, ha⟩ => by
    have hl := (List.getElem?_eq_some_iff.1 hk).1
    have e : bare { n with x := (x : Int) } = n := by show bare n = n; exact h3
    rw [treeAt_eq ho hl, getD_some hk, if_neg (by simp [h2]), if_pos h1, e]
    show Tr.un n (treeAt o x) = _
    rw [rep_tree ho a x h4 ha]
  | .bin n a b, k, ⟨h1, h2, h3, h4, h5⟩, ⟨x, y, hk, ha, hb⟩ => by
    have hl := (List.getElem?_eq_some_iff.1 hk).1
    have e : bare { n with x := (x : Int), y := (y : Int) } = n := by show bare n = n; exact h3
    rw [treeAt_eq ho hl, getD_some hk, if_pos h2, e]
    show Tr.bin n (treeAt o x) (treeAt o y) = _
    rw [rep_tree ho a x h4 ha, rep_tree ho b y h5 hb]
theorem bare_with (n : Nd) (x y : Int) (hx : n.x = x) (hy : n.y = y) : n = { bare n with x := x, y := y } := by
  subst hx; subst hy; rfl
theorem rep_of_tree {o : List Nd} (ho : opsL o) : ∀ (k i : Nat), i < k → i < o.length → rep o i (treeAt o i) := by
  intro k
  induction k with
  | zero => intro i h; omega
  | succ k ih =>
    intro i h hi
    have h0 := ho i hi
    have hg : o[i]? = some (o.getD i nd0) := by simp [hi]
    rw [treeAt_eq ho hi]
    split
    · rename_i hy
      have hx := opsOk_x h0 (usesY_X hy)
      have hy2 := opsOk_y h0 hy
      refine ⟨(o.getD i nd0).x.toNat, (o.getD i nd0).y.toNat, ?_, ih _ (by omega) (by omega), ih _ (by omega) (by omega)⟩
      exact hg.trans (congrArg some (bare_with _ _ _ (by omega) (by omega)))
    · rename_i hy
      have e2 : (o.getD i nd0).y = 0 := by have := h0.2; rw [if_neg hy] at this; exact this
      split
      · rename_i hx
        have hx2 := opsOk_x h0 hx
        refine ⟨(o.getD i nd0).x.toNat, ?_, ih _ (by omega) (by omega)⟩
        exact hg.trans (congrArg some (bare_with _ _ 0 (by omega) e2))
      · rename_i hx
        have e1 : (o.getD i nd0).x = 0 := by have := h0.1; rw [if_neg hx] at this; exact this
        exact hg.trans (congrArg some (bare_with _ 0 0 e1 e2))
/-- what the walk knows: its list has no equal nodes, and each finished node's tree lies in it -/
structure WkOk (f : List Nd) (s : Wk) : Prop where
  len : s.done.length = f.length
  nodup : s.out.Nodup
  there : ∀ j k, s.done.getD j none = some k → j < f.length ∧ rep s.out k (treeAt f j)
theorem getD_set {l : List (Option Nat)} {i j : Nat} {v : Option Nat} (h : i < l.length) : (l.set i v).getD j none = if i = j then v else l.getD j none := by
  rw [List.getD_eq_getElem?_getD, List.getElem?_set, List.getD_eq_getElem?_getD]
  by_cases e : i = j
  · rw [if_pos e, if_pos e, if_pos h]; rfl
  · rw [if_neg e, if_neg e]
/-- the walk over the list is the walk over the tree -/
theorem finW_tree {f : List Nd} (hf : opsL f) : ∀ (fuel i : Nat) (s : Wk), i < fuel → i < f.length → WkOk f s →
    (finW f fuel i s).1 = (finT (treeAt f i) s.out).1 ∧ (finW f fuel i s).2.out = (finT (treeAt f i) s.out).2 ∧ WkOk f (finW f fuel i s).2 ∧
      (finW f fuel i s).2.done.getD i none = some (finW f fuel i s).1 ∧ (∀ j, i < j → (finW f fuel i s).2.done.getD j none = s.done.getD j none) := by
  intro fuel
  induction fuel with
  | zero => intro i s h; omega
  | succ fuel ih =>
    intro i s h hi hs
    unfold finW
    cases hd : s.done.getD i none with
    | some k =>
      have hr := (hs.there i k hd).2
      simp only
      rw [finT_old hs.nodup _ _ hr]
      exact ⟨rfl, rfl, hs, hd, fun _ _ => trivial⟩
    | none =>
      simp only
      have ho := hf i hi
      rw [treeAt_eq hf hi]
      have fin : ∀ (t : Tr) (r : Nat × Wk) (m : Nd), WkOk f r.2 → finT t s.out = putNd r.2.out m → treeAt f i = t → (∀ j, i ≤ j → r.2.done.getD j none = s.done.getD j none) →
          (putNd r.2.out m).1 = (finT t s.out).1 ∧ (putNd r.2.out m).2 = (finT t s.out).2 ∧ WkOk f ⟨(putNd r.2.out m).2, r.2.done.set i (some (putNd r.2.out m).1)⟩ ∧
          (r.2.done.set i (some (putNd r.2.out m).1)).getD i none = some (putNd r.2.out m).1 ∧ (∀ j, i < j → (r.2.done.set i (some (putNd r.2.out m).1)).getD j none = s.done.getD j none) := by
        intro t r m hw he ht hg
        have hl : i < r.2.done.length := by rw [hw.len]; exact hi
        refine ⟨by rw [he], by rw [he], ⟨by show (r.2.done.set i _).length = _; rw [List.length_set, hw.len], putNd_nodup hw.nodup m, fun j k hj => ?_⟩, by rw [getD_set hl, if_pos rfl], fun j hj => by rw [getD_set hl, if_neg (by omega)]; exact hg j (by omega)⟩
        rw [getD_set hl] at hj
        by_cases e : i = j
        · rw [if_pos e] at hj
          injection hj with hj
          subst e; subst hj
          refine ⟨hi, ?_⟩
          show rep (putNd r.2.out m).2 _ _
          rw [ht, ← he]
          exact finT_rep t s.out
        · rw [if_neg e] at hj
          obtain ⟨h1, h2⟩ := hw.there j k hj
          exact ⟨h1, rep_mono (putNd_pre _ _) _ _ h2⟩
      by_cases hy : usesY (f.getD i nd0).op = true
      · have hx := usesY_X hy
        have ox := opsOk_x ho hx
        have oy := opsOk_y ho hy
        rw [if_pos hx, if_pos hy, if_pos hy]
        obtain ⟨a1, a2, a3, a4, a5⟩ := ih (f.getD i nd0).x.toNat s (by omega) (by omega) hs
        obtain ⟨b1, b2, b3, b4, b5⟩ := ih (f.getD i nd0).y.toNat (finW f fuel (f.getD i nd0).x.toNat s).2 (by omega) (by omega) a3
        refine fin (.bin (bare (f.getD i nd0)) (treeAt f (f.getD i nd0).x.toNat) (treeAt f (f.getD i nd0).y.toNat)) (finW f fuel (f.getD i nd0).y.toNat (finW f fuel (f.getD i nd0).x.toNat s).2) _ b3 ?_ (by rw [treeAt_eq hf hi, if_pos hy]) (fun j hj => by rw [b5 j (by omega), a5 j (by omega)])
        rw [b2, b1, a2, a1]
        rfl
      · rw [if_neg hy, if_neg hy]
        have e2 : (f.getD i nd0).y = 0 := by have := ho.2; rw [if_neg hy] at this; exact this
        by_cases hx : usesX (f.getD i nd0).op = true
        · have ox := opsOk_x ho hx
          rw [if_pos hx, if_pos hx]
          obtain ⟨a1, a2, a3, a4, a5⟩ := ih (f.getD i nd0).x.toNat s (by omega) (by omega) hs
          refine fin (.un (bare (f.getD i nd0)) (treeAt f (f.getD i nd0).x.toNat)) (finW f fuel (f.getD i nd0).x.toNat s) _ a3 ?_ (by rw [treeAt_eq hf hi, if_neg hy, if_pos hx]) (fun j hj => by rw [a5 j (by omega)])
          rw [a2, a1]
          show putNd _ { bare (f.getD i nd0) with x := _ } = putNd _ { f.getD i nd0 with x := _, y := _ }
          congr 1
          show Nd.mk _ _ _ _ _ 0 = Nd.mk _ _ _ _ _ (((f.getD i nd0).y.toNat : Nat) : Int)
          rw [e2]; rfl
        · have e1 : (f.getD i nd0).x = 0 := by have := ho.1; rw [if_neg hx] at this; exact this
          rw [if_neg hx, if_neg hx]
          refine fin (.leaf (bare (f.getD i nd0))) ((f.getD i nd0).x.toNat, s) _ hs ?_ (by rw [treeAt_eq hf hi, if_neg hy, if_neg hx]) (fun j hj => rfl)
          show putNd _ (bare _) = putNd _ _
          congr 1
          show Nd.mk _ _ _ _ 0 0 = Nd.mk _ _ _ _ (((f.getD i nd0).x.toNat : Nat) : Int) (((f.getD i nd0).y.toNat : Nat) : Int)
          rw [e1, e2]; rfl
/-- the canonical list of a tree -/
def canT (t : Tr) : List Nd := (finT t []).2
theorem wk0 (f : List Nd) : WkOk f ⟨[], List.replicate f.length none⟩ := by
  refine ⟨by simp, List.nodup_nil, fun j k h => ?_⟩
  have h : (List.replicate f.length (none : Option Nat)).getD j none = some k := h
  rw [List.getD_eq_getElem?_getD, List.getElem?_replicate] at h
  split at h <;> cases h
theorem walk_tree {f : List Nd} (hf : opsL f) {fuel i : Nat} (h : i < fuel) (hi : i < f.length) : (finW f fuel i ⟨[], List.replicate f.length none⟩).2.out = canT (treeAt f i) :=
  (finW_tree hf fuel i _ h hi (wk0 f)).2.1
theorem canonF_tree {f : List Nd} (hf : opsL f) (hn : f ≠ []) : canonF f = canT (treeAt f (f.length - 1)) := by
  have : f.length ≠ 0 := by simpa using hn
  exact walk_tree hf (by omega) (by omega)
theorem take_getD {f : List Nd} {m j : Nat} (h : j < m) : (f.take m).getD j nd0 = f.getD j nd0 := by
  rw [List.getD_eq_getElem?_getD, List.getElem?_take, if_pos h, List.getD_eq_getElem?_getD]
theorem opsL_take {f : List Nd} (hf : opsL f) (m : Nat) : opsL (f.take m) := by
  intro i hi
  rw [List.length_take] at hi
  rw [take_getD (by omega)]
  exact hf i (by omega)
theorem treeAt_take {f : List Nd} (hf : opsL f) (m : Nat) : ∀ (k i : Nat), i < k → i < m → i < f.length → treeAt (f.take m) i = treeAt f i := by
  intro k
  induction k with
  | zero => intro i h; omega
  | succ k ih =>
    intro i h hm hi
    have ho := hf i hi
    rw [treeAt_eq (opsL_take hf m) (by rw [List.length_take]; omega), treeAt_eq hf hi, take_getD hm]
    split
    · rename_i hy
      have hx := opsOk_x ho (usesY_X hy)
      have hy2 := opsOk_y ho hy
      rw [ih _ (by omega) (by omega) (by omega), ih _ (by omega) (by omega) (by omega)]
    · split
      · rename_i _ hx
        have hx2 := opsOk_x ho hx
        rw [ih _ (by omega) (by omega) (by omega)]
      · rfl
/-- the canonical list up to a node is that of its tree, in the whole list and in the list cut behind it -/
theorem canon_take {f : List Nd} (hf : opsL f) {i : Nat} (hi : i < f.length) : canonF (f.take (i + 1)) = canT (treeAt f i) := by
  have hl : (f.take (i + 1)).length = i + 1 := by rw [List.length_take]; omega
  rw [canonF_tree (opsL_take hf _) (by intro e; rw [e] at hl; simp at hl), hl, show i + 1 - 1 = i from rfl, treeAt_take hf _ (i + 1) i (by omega) (by omega) hi]
theorem canT_ops {t : Tr} (h : trOk t) : opsL (canT t) := finT_ops t h (fun i hi => absurd hi (by simp))
theorem canT_nodup (t : Tr) : (canT t).Nodup := finT_nodup t List.nodup_nil
theorem putNd_lastOr (o : List Nd) (n : Nd) : n ∈ o ∨ (putNd o n).1 = (putNd o n).2.length - 1 := by
  unfold putNd
  split
  · rename_i h; exact .inl h
  · right; show o.length = (o ++ [n]).length - 1; simp
end Go.Proofs.Ws
