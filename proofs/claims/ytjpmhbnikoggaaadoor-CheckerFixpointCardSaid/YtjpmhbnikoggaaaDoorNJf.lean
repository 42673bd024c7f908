/- Layer 6: texts joined: Kp Kk Kl Kn Ko. -/
import Derived.Test.YtjpmhbnikoggaaaDoorNJa
import Derived.Test.YtjpmhbnikoggaaaDoorNJd
import Derived.Test.YtjpmhbnikoggaaaDoorNJe
import Derived.Laws.StructEq
import Derived.Deep.RegionLaw
import Derived.Deep.RegionHeld3
import Derived.Deep.AppendLies
import Derived.KernelRfl
/- Layer 5 as plain mathematics: the canonical list as a function of the tree. -/
namespace Go.Proofs.Ws
open Go
inductive Tr where
  | leaf (n : Nd)
  | un (n : Nd) (a : Tr)
  | bin (n : Nd) (a b : Tr)
deriving DecidableEq
def bare (n : Nd) : Nd := { n with x := 0, y := 0 }
def treeF (f : List Nd) : Nat → Nat → Tr
  | 0, _ => .leaf nd0
  | fuel + 1, i =>
    let n := f.getD i nd0
    if usesY n.op = true then .bin (bare n) (treeF f fuel n.x.toNat) (treeF f fuel n.y.toNat)
    else if usesX n.op = true then .un (bare n) (treeF f fuel n.x.toNat) else .leaf (bare n)
/-- the tree of the node at a place -/
def treeAt (f : List Nd) (i : Nat) : Tr := treeF f (i + 1) i
def finT : Tr → List Nd → Nat × List Nd
  | .leaf n, o => putNd o n
  | .un n a, o => putNd (finT a o).2 { n with x := ((finT a o).1 : Int) }
  | .bin n a b, o => putNd (finT b (finT a o).2).2 { n with x := ((finT a o).1 : Int), y := ((finT b (finT a o).2).1 : Int) }
/-- the tree lies in the list at a number -/
def rep (o : List Nd) : Nat → Tr → Prop
  | k, .leaf n => o[k]? = some n
  | k, .un n a => ∃ x : Nat, o[k]? = some { n with x := (x : Int) } ∧ rep o x a
  | k, .bin n a b => ∃ x y : Nat, o[k]? = some { n with x := (x : Int), y := (y : Int) } ∧ rep o x a ∧ rep o y b
theorem putNd_old {o : List Nd} (h : o.Nodup) {k : Nat} {n : Nd} (hk : o[k]? = some n) : putNd o n = (k, o) := by
  obtain ⟨hl, he⟩ := List.getElem?_eq_some_iff.1 hk
  have hm : n ∈ o := by rw [← he]; exact List.getElem_mem hl
  unfold putNd
  rw [if_pos hm, ← he, List.Nodup.idxOf_getElem h]
theorem finT_old {o : List Nd} (h : o.Nodup) : ∀ (t : Tr) (k : Nat), rep o k t → finT t o = (k, o)
  | .leaf n, k, hr => putNd_old h hr
  | .un n a, k, ⟨x, hk, ha⟩ => by
    unfold finT
    rw [finT_old h a x ha]
    exact putNd_old h hk
  | .bin n a b, k, ⟨x, y, hk, ha, hb⟩ => by
    unfold finT
    rw [finT_old h a x ha, finT_old h b y hb]
    exact putNd_old h hk
theorem rep_mono {o o' : List Nd} (hp : o <+: o') : ∀ (t : Tr) (k : Nat), rep o k t → rep o' k t
  | .leaf n, k, h => by
    obtain ⟨r, rfl⟩ := hp
    have hl : k < o.length := (List.getElem?_eq_some_iff.1 h).1
    show (o ++ r)[k]? = some n
    rw [List.getElem?_append_left hl]; exact h
  | .un n a, k, ⟨x, hk, ha⟩ => by
    refine ⟨x, ?_, rep_mono hp a x ha⟩
    obtain ⟨r, rfl⟩ := hp
    have hl : k < o.length := (List.getElem?_eq_some_iff.1 hk).1
    rw [List.getElem?_append_left hl]; exact hk
  | .bin n a b, k, ⟨x, y, hk, ha, hb⟩ => by
    refine ⟨x, y, ?_, rep_mono hp a x ha, rep_mono hp b y hb⟩
    obtain ⟨r, rfl⟩ := hp
    have hl : k < o.length := (List.getElem?_eq_some_iff.1 hk).1
    rw [List.getElem?_append_left hl]; exact hk
theorem putNd_pre (o : List Nd) (n : Nd) : o <+: (putNd o n).2 := by
  unfold putNd
  split
  · exact List.prefix_refl _
  · exact List.prefix_append _ _
theorem putNd_at (o : List Nd) (n : Nd) : (putNd o n).2[(putNd o n).1]? = some n := by
  unfold putNd
  split
  · rename_i h
    show o[o.idxOf n]? = some n
    rw [List.getElem?_eq_getElem (List.idxOf_lt_length_of_mem h)]
    simp
  · show (o ++ [n])[o.length]? = some n
    simp
theorem putNd_nodup {o : List Nd} (h : o.Nodup) (n : Nd) : (putNd o n).2.Nodup := by
  unfold putNd
  split
  · exact h
  · rename_i hn
    show (o ++ [n]).Nodup
    rw [List.nodup_append]
    exact ⟨h, by simp, fun a ha b hb e => hn (by rw [List.mem_singleton.1 hb] at e; rw [← e]; exact ha)⟩
theorem putNd_len (o : List Nd) (n : Nd) : (putNd o n).2.length ≤ o.length + 1 ∧ (putNd o n).1 < (putNd o n).2.length := by
  refine ⟨?_, (List.getElem?_eq_some_iff.1 (putNd_at o n)).1⟩
  unfold putNd
  split
  · show o.length ≤ _; omega
  · show (o ++ [n]).length ≤ _; simp
theorem finT_pre : ∀ (t : Tr) (o : List Nd), o <+: (finT t o).2
  | .leaf n, o => putNd_pre o n
  | .un _n a, o => (finT_pre a o).trans (putNd_pre _ _)
  | .bin _n a b, o => ((finT_pre a o).trans (finT_pre b _)).trans (putNd_pre _ _)
theorem finT_rep : ∀ (t : Tr) (o : List Nd), rep (finT t o).2 (finT t o).1 t
  | .leaf n, o => putNd_at o n
  | .un _n a, o => ⟨_, putNd_at _ _, rep_mono (putNd_pre _ _) a _ (finT_rep a o)⟩
  | .bin _n a b, o => ⟨_, _, putNd_at _ _, rep_mono (putNd_pre _ _) a _ (rep_mono (finT_pre b _) a _ (finT_rep a o)), rep_mono (putNd_pre _ _) b _ (finT_rep b _)⟩
/-- what a tree is made of: the fields that an operator does not use are 0, and it has the operands that it uses -/
def trOk : Tr → Prop
  | .leaf n => usesX n.op = false ∧ usesY n.op = false ∧ bare n = n
  | .un n a => usesX n.op = true ∧ usesY n.op = false ∧ bare n = n ∧ trOk a
  | .bin n a b => usesX n.op = true ∧ usesY n.op = true ∧ bare n = n ∧ trOk a ∧ trOk b
/-- the nodes of a tree, without numbers -/
def trAll (P : Nd → Prop) : Tr → Prop
  | .leaf n => P n
  | .un n a => P n ∧ trAll P a
  | .bin n a b => P n ∧ trAll P a ∧ trAll P b
/-- the operands that are used are earlier nodes, the others are 0 -/
def opsOk (n : Nd) (k : Nat) : Prop :=
  (if usesX n.op = true then 0 ≤ n.x ∧ n.x < (k : Int) else n.x = 0) ∧ (if usesY n.op = true then 0 ≤ n.y ∧ n.y < (k : Int) else n.y = 0)
def opsL (f : List Nd) : Prop := ∀ i, i < f.length → opsOk (f.getD i nd0) i
theorem usesY_X {op : Int} (h : usesY op = true) : usesX op = true := by
  unfold usesY at h
  unfold usesX
  simp only [Bool.or_eq_true, Bool.and_eq_true, decide_eq_true_eq] at h ⊢
  omega
theorem getD_some {o : List Nd} {k : Nat} {n : Nd} (h : o[k]? = some n) : o.getD k nd0 = n := by
  rw [List.getD_eq_getElem?_getD, h]; rfl
theorem bare_x {n : Nd} (h : bare n = n) : n.x = 0 ∧ n.y = 0 := by rw [← h]; exact ⟨rfl, rfl⟩
theorem opsL_put {o : List Nd} (h : opsL o) {n : Nd} (hn : opsOk n o.length) : opsL (putNd o n).2 := by
  unfold putNd
  split
  · exact h
  · intro i hi
    have hi2 : i < o.length + 1 := by simpa using hi
    by_cases e : i = o.length
    · subst e
      show opsOk ((o ++ [n]).getD o.length nd0) o.length
      rw [getD_some (n := n) (by simp)]
      exact hn
    · have hl : i < o.length := by omega
      have : (o ++ [n]).getD i nd0 = o.getD i nd0 := by
        rw [List.getD_eq_getElem?_getD, List.getElem?_append_left hl, ← List.getD_eq_getElem?_getD]
      show opsOk ((o ++ [n]).getD i nd0) i
      rw [this]
      exact h i hl
theorem finT_lt (t : Tr) (o : List Nd) : (finT t o).1 < (finT t o).2.length := by
  cases t
  · exact (putNd_len _ _).2
  · exact (putNd_len _ _).2
  · exact (putNd_len _ _).2
theorem finT_ops : ∀ (t : Tr) {o : List Nd}, trOk t → opsL o → opsL (finT t o).2
  | .leaf n, o, ⟨h1, h2, h3⟩, h => by
    refine opsL_put h ⟨?_, ?_⟩
    · rw [if_neg (by simp [h1])]; exact (bare_x h3).1
    · rw [if_neg (by simp [h2])]; exact (bare_x h3).2
  | .un n a, o, ⟨h1, h2, h3, h4⟩, h => by
    have ha := finT_lt a o
    refine opsL_put (finT_ops a h4 h) ⟨?_, ?_⟩
    · show if usesX n.op = true then _ else _
      rw [if_pos h1]
      exact ⟨Int.natCast_nonneg _, by show ((finT a o).1 : Int) < _; omega⟩
    · show if usesY n.op = true then _ else _
      rw [if_neg (by simp [h2])]; exact (bare_x h3).2
  | .bin n a b, o, ⟨h1, h2, h3, h4, h5⟩, h => by
    have ha := finT_lt a o
    have hb := finT_lt b (finT a o).2
    have hp := (finT_pre b (finT a o).2).length_le
    refine opsL_put (finT_ops b h5 (finT_ops a h4 h)) ⟨?_, ?_⟩
    · show if usesX n.op = true then _ else _
      rw [if_pos h1]
      exact ⟨Int.natCast_nonneg _, by show ((finT a o).1 : Int) < _; omega⟩
    · show if usesY n.op = true then _ else _
      rw [if_pos h2]
      exact ⟨Int.natCast_nonneg _, by show ((finT b (finT a o).2).1 : Int) < _; omega⟩
theorem putNd_all {P : Nd → Prop} {o : List Nd} (h : ∀ n ∈ o, P (bare n)) {n : Nd} (hn : P (bare n)) : ∀ m ∈ (putNd o n).2, P (bare m) := by
  unfold putNd
  split
  · exact h
  · intro m hm
    rcases List.mem_append.1 hm with hm | hm
    · exact h m hm
    · rw [List.mem_singleton.1 hm]; exact hn
theorem finT_all {P : Nd → Prop} : ∀ (t : Tr) {o : List Nd}, trOk t → trAll P t → (∀ n ∈ o, P (bare n)) → ∀ n ∈ (finT t o).2, P (bare n)
  | .leaf n, o, ⟨_, _, h3⟩, hp, h => putNd_all h (by rw [h3]; exact hp)
  | .un n a, o, ⟨_, _, h3, h4⟩, ⟨hp, ha⟩, h => putNd_all (finT_all a h4 ha h) (by show P (bare n); rw [h3]; exact hp)
  | .bin n a b, o, ⟨_, _, h3, h4, h5⟩, ⟨hp, ha, hb⟩, h => putNd_all (finT_all b h5 hb (finT_all a h4 ha h)) (by show P (bare n); rw [h3]; exact hp)
theorem opsOk_x {n : Nd} {k : Nat} (h : opsOk n k) (hu : usesX n.op = true) : 0 ≤ n.x ∧ n.x.toNat < k := by
  have := h.1
  rw [if_pos hu] at this
  omega
theorem opsOk_y {n : Nd} {k : Nat} (h : opsOk n k) (hu : usesY n.op = true) : 0 ≤ n.y ∧ n.y.toNat < k := by
  have := h.2
  rw [if_pos hu] at this
  omega
theorem treeF_fuel {f : List Nd} (hf : opsL f) : ∀ (m i : Nat), i < m → i < f.length → treeF f m i = treeAt f i := by
  have key : ∀ (m m' i : Nat), i < m → i < m' → i < f.length → treeF f m i = treeF f m' i := by
    intro m
    induction m with
    | zero => intro m' i h; omega
    | succ m ih =>
      intro m' i h1 h2 hl
      cases m' with
      | zero => omega
      | succ m' =>
        have ho := hf i hl
        unfold treeF
        simp only
        split
        · rename_i hy
          have hx := opsOk_x ho (usesY_X hy)
          have hy2 := opsOk_y ho hy
          rw [ih m' _ (by omega) (by omega) (by omega), ih m' _ (by omega) (by omega) (by omega)]
        · split
          · rename_i _ hx
            have hx := opsOk_x ho hx
            rw [ih m' _ (by omega) (by omega) (by omega)]
          · rfl
  intro m i h hl
  exact key m (i + 1) i h (by omega) hl
theorem treeAt_eq {f : List Nd} (hf : opsL f) {i : Nat} (hi : i < f.length) :
    treeAt f i = (if usesY (f.getD i nd0).op = true then .bin (bare (f.getD i nd0)) (treeAt f (f.getD i nd0).x.toNat) (treeAt f (f.getD i nd0).y.toNat)
      else if usesX (f.getD i nd0).op = true then .un (bare (f.getD i nd0)) (treeAt f (f.getD i nd0).x.toNat) else .leaf (bare (f.getD i nd0))) := by
  have ho := hf i hi
  show treeF f (i + 1) i = _
  unfold treeF
  simp only
  split
  · rename_i hy
    have hx := opsOk_x ho (usesY_X hy)
    have hy2 := opsOk_y ho hy
    rw [treeF_fuel hf i _ hx.2 (by omega), treeF_fuel hf i _ hy2.2 (by omega)]
  · split
    · rename_i _ hx
      have hx := opsOk_x ho hx
      rw [treeF_fuel hf i _ hx.2 (by omega)]
    · rfl
theorem treeAt_ok {f : List Nd} (hf : opsL f) : ∀ (k i : Nat), i < k → i < f.length → trOk (treeAt f i) := by
  intro k
  induction k with
  | zero => intro i h; omega
  | succ k ih =>
    intro i h hi
    have ho := hf i hi
    rw [treeAt_eq hf hi]
    split
    · rename_i hy
      have hx := opsOk_x ho (usesY_X hy)
      have hy2 := opsOk_y ho hy
      exact ⟨usesY_X hy, hy, rfl, ih _ (by omega) (by omega), ih _ (by omega) (by omega)⟩
    · rename_i hy
      split
      · rename_i hx
        have hx2 := opsOk_x ho hx
        exact ⟨hx, Bool.eq_false_iff.2 hy, rfl, ih _ (by omega) (by omega)⟩
      · rename_i hx
        exact ⟨Bool.eq_false_iff.2 hx, Bool.eq_false_iff.2 hy, rfl⟩
theorem treeAt_all {P : Nd → Prop} {f : List Nd} (hf : opsL f) (hP : ∀ n ∈ f, P (bare n)) : ∀ (k i : Nat), i < k → i < f.length → trAll P (treeAt f i) := by
  intro k
  induction k with
  | zero => intro i h; omega
  | succ k ih =>
    intro i h hi
    have ho := hf i hi
    have hp : P (bare (f.getD i nd0)) := by
      have : f.getD i nd0 = f[i] := by simp [hi]
      rw [this]; exact hP _ (List.getElem_mem hi)
    rw [treeAt_eq hf hi]
    split
    · rename_i hy
      have hx := opsOk_x ho (usesY_X hy)
      have hy2 := opsOk_y ho hy
      exact ⟨hp, ih _ (by omega) (by omega), ih _ (by omega) (by omega)⟩
    · split
      · rename_i _ hx
        have hx2 := opsOk_x ho hx
        exact ⟨hp, ih _ (by omega) (by omega)⟩
      · exact hp
/-- a tree that lies in a list is the tree of the list's node -/
theorem rep_tree {o : List Nd} (ho : opsL o) : ∀ (t : Tr) (k : Nat), trOk t → rep o k t → treeAt o k = t
  | .leaf n, k, ⟨h1, h2, h3⟩, hr => by
    have hl := (List.getElem?_eq_some_iff.1 hr).1
    rw [treeAt_eq ho hl, getD_some hr, if_neg (by simp [h2]), if_neg (by simp [h1]), h3]
  | .un n a, k, ⟨h1, h2, h3, h4⟩, ⟨x, hk, ha⟩ => by
    have hl := (List.getElem?_eq_some_iff.1 hk).1
    have e : bare { n with x := (x : Int) } = n := by show bare n = n; exact h3
    rw [treeAt_eq ho hl, getD_some hk, if_neg (by simp [h2]), if_pos h1, e]
    show Tr.un n (treeAt o x) = _
    rw [rep_tree ho a x h4 ha]
  | .bin n a b, k, ⟨h1, h2, h3, h4, h5⟩, ⟨x, y, hk, ha, hb⟩ => by
    have hl := (List.getElem?_eq_some_iff.1 hk).1
    have e : bare { n with x := (x : Int), y := (y : Int) } = n := by show bare n = n; exact h3
    rw [treeAt_eq ho hl, getD_some hk, if_pos h2, e]
    show Tr.bin n (treeAt o x) (treeAt o y) = _
    rw [rep_tree ho a x h4 ha, rep_tree ho b y h5 hb]
/-- what the walk knows: its list has no equal nodes, and each finished node's tree lies in it -/
structure WkOk (f : List Nd) (s : Wk) : Prop where
  len : s.done.length = f.length
  nodup : s.out.Nodup
  there : ∀ j k, s.done.getD j none = some k → j < f.length ∧ rep s.out k (treeAt f j)
theorem getD_set {l : List (Option Nat)} {i j : Nat} {v : Option Nat} (h : i < l.length) : (l.set i v).getD j none = if i = j then v else l.getD j none := by
  rw [List.getD_eq_getElem?_getD, List.getElem?_set, List.getD_eq_getElem?_getD]
  by_cases e : i = j
  · rw [if_pos e, if_pos e, if_pos h]; rfl
  · rw [if_neg e, if_neg e]
/-- the walk over the list is the walk over the tree -/
theorem finW_tree {f : List Nd} (hf : opsL f) : ∀ (fuel i : Nat) (s : Wk), i < fuel → i < f.length → WkOk f s →
    (finW f fuel i s).1 = (finT (treeAt f i) s.out).1 ∧ (finW f fuel i s).2.out = (finT (treeAt f i) s.out).2 ∧ WkOk f (finW f fuel i s).2 ∧
      (finW f fuel i s).2.done.getD i none = some (finW f fuel i s).1 ∧ (∀ j, i < j → (finW f fuel i s).2.done.getD j none = s.done.getD j none) := by
  intro fuel
  induction fuel with
  | zero => intro i s h; omega
  | succ fuel ih =>
    intro i s h hi hs
    unfold finW
    cases hd : s.done.getD i none with
    | some k =>
      have hr := (hs.there i k hd).2
      simp only
      rw [finT_old hs.nodup _ _ hr]
      exact ⟨rfl, rfl, hs, hd, fun _ _ => trivial⟩
    | none =>
      simp only
      have ho := hf i hi
      rw [treeAt_eq hf hi]
      have fin : ∀ (t : Tr) (r : Nat × Wk) (m : Nd), WkOk f r.2 → finT t s.out = putNd r.2.out m → treeAt f i = t → (∀ j, i ≤ j → r.2.done.getD j none = s.done.getD j none) →
          (putNd r.2.out m).1 = (finT t s.out).1 ∧ (putNd r.2.out m).2 = (finT t s.out).2 ∧ WkOk f ⟨(putNd r.2.out m).2, r.2.done.set i (some (putNd r.2.out m).1)⟩ ∧
          (r.2.done.set i (some (putNd r.2.out m).1)).getD i none = some (putNd r.2.out m).1 ∧ (∀ j, i < j → (r.2.done.set i (some (putNd r.2.out m).1)).getD j none = s.done.getD j none) := by
        intro t r m hw he ht hg
        have hl : i < r.2.done.length := by rw [hw.len]; exact hi
        refine ⟨by rw [he], by rw [he], ⟨by show (r.2.done.set i _).length = _; rw [List.length_set, hw.len], putNd_nodup hw.nodup m, fun j k hj => ?_⟩, by rw [getD_set hl, if_pos rfl], fun j hj => by rw [getD_set hl, if_neg (by omega)]; exact hg j (by omega)⟩
        rw [getD_set hl] at hj
        by_cases e : i = j
        · rw [if_pos e] at hj
          injection hj with hj
          subst e; subst hj
          refine ⟨hi, ?_⟩
          show rep (putNd r.2.out m).2 _ _
          rw [ht, ← he]
          exact finT_rep t s.out
        · rw [if_neg e] at hj
          obtain ⟨h1, h2⟩ := hw.there j k hj
          exact ⟨h1, rep_mono (putNd_pre _ _) _ _ h2⟩
      by_cases hy : usesY (f.getD i nd0).op = true
      · have hx := usesY_X hy
        have ox := opsOk_x ho hx
        have oy := opsOk_y ho hy
        rw [if_pos hx, if_pos hy, if_pos hy]
        obtain ⟨a1, a2, a3, a4, a5⟩ := ih (f.getD i nd0).x.toNat s (by omega) (by omega) hs
        obtain ⟨b1, b2, b3, b4, b5⟩ := ih (f.getD i nd0).y.toNat (finW f fuel (f.getD i nd0).x.toNat s).2 (by omega) (by omega) a3
        refine fin (.bin (bare (f.getD i nd0)) (treeAt f (f.getD i nd0).x.toNat) (treeAt f (f.getD i nd0).y.toNat)) (finW f fuel (f.getD i nd0).y.toNat (finW f fuel (f.getD i nd0).x.toNat s).2) _ b3 ?_ (by rw [treeAt_eq hf hi, if_pos hy]) (fun j hj => by rw [b5 j (by omega), a5 j (by omega)])
        rw [b2, b1, a2, a1]
        rfl
      · rw [if_neg hy, if_neg hy]
        have e2 : (f.getD i nd0).y = 0 := by have := ho.2; rw [if_neg hy] at this; exact this
        by_cases hx : usesX (f.getD i nd0).op = true
        · have ox := opsOk_x ho hx
          rw [if_pos hx, if_pos hx]
          obtain ⟨a1, a2, a3, a4, a5⟩ := ih (f.getD i nd0).x.toNat s (by omega) (by omega) hs
          refine fin (.un (bare (f.getD i nd0)) (treeAt f (f.getD i nd0).x.toNat)) (finW f fuel (f.getD i nd0).x.toNat s) _ a3 ?_ (by rw [treeAt_eq hf hi, if_neg hy, if_pos hx]) (fun j hj => by rw [a5 j (by omega)])
          rw [a2, a1]
          show putNd _ { bare (f.getD i nd0) with x := _ } = putNd _ { f.getD i nd0 with x := _, y := _ }
          congr 1
          show Nd.mk _ _ _ _ _ 0 = Nd.mk _ _ _ _ _ (((f.getD i nd0).y.toNat : Nat) : Int)
          rw [e2]; rfl
        · have e1 : (f.getD i nd0).x = 0 := by have := ho.1; rw [if_neg hx] at this; exact this
          rw [if_neg hx, if_neg hx]
          refine fin (.leaf (bare (f.getD i nd0))) ((f.getD i nd0).x.toNat, s) _ hs ?_ (by rw [treeAt_eq hf hi, if_neg hy, if_neg hx]) (fun j hj => rfl)
          show putNd _ (bare _) = putNd _ _
          congr 1
          show Nd.mk _ _ _ _ 0 0 = Nd.mk _ _ _ _ (((f.getD i nd0).x.toNat : Nat) : Int) (((f.getD i nd0).y.toNat : Nat) : Int)
          rw [e1, e2]; rfl
/-- the canonical list of a tree -/
def canT (t : Tr) : List Nd := (finT t []).2
theorem wk0 (f : List Nd) : WkOk f ⟨[], List.replicate f.length none⟩ := by
  refine ⟨by simp, List.nodup_nil, fun j k h => ?_⟩
  have h : (List.replicate f.length (none : Option Nat)).getD j none = some k := h
  rw [List.getD_eq_getElem?_getD, List.getElem?_replicate] at h
  split at h <;> cases h
theorem walk_tree {f : List Nd} (hf : opsL f) {fuel i : Nat} (h : i < fuel) (hi : i < f.length) : (finW f fuel i ⟨[], List.replicate f.length none⟩).2.out = canT (treeAt f i) :=
  (finW_tree hf fuel i _ h hi (wk0 f)).2.1
theorem canonF_tree {f : List Nd} (hf : opsL f) (hn : f ≠ []) : canonF f = canT (treeAt f (f.length - 1)) := by
  have : f.length ≠ 0 := by simpa using hn
  exact walk_tree hf (by omega) (by omega)
theorem take_getD {f : List Nd} {m j : Nat} (h : j < m) : (f.take m).getD j nd0 = f.getD j nd0 := by
  rw [List.getD_eq_getElem?_getD, List.getElem?_take, if_pos h, List.getD_eq_getElem?_getD]
theorem opsL_take {f : List Nd} (hf : opsL f) (m : Nat) : opsL (f.take m) := by
  intro i hi
  rw [List.length_take] at hi
  rw [take_getD (by omega)]
  exact hf i (by omega)
theorem treeAt_take {f : List Nd} (hf : opsL f) (m : Nat) : ∀ (k i : Nat), i < k → i < m → i < f.length → treeAt (f.take m) i = treeAt f i := by
  intro k
  induction k with
  | zero => intro i h; omega
  | succ k ih =>
    intro i h hm hi
    have ho := hf i hi
    rw [treeAt_eq (opsL_take hf m) (by rw [List.length_take]; omega), treeAt_eq hf hi, take_getD hm]
    split
    · rename_i hy
      have hx := opsOk_x ho (usesY_X hy)
      have hy2 := opsOk_y ho hy
      rw [ih _ (by omega) (by omega) (by omega), ih _ (by omega) (by omega) (by omega)]
    · split
      · rename_i _ hx
        have hx2 := opsOk_x ho hx
        rw [ih _ (by omega) (by omega) (by omega)]
      · rfl
theorem canT_ops {t : Tr} (h : trOk t) : opsL (canT t) := finT_ops t h (fun i hi => absurd hi (by simp))
theorem putNd_lastOr (o : List Nd) (n : Nd) : n ∈ o ∨ (putNd o n).1 = (putNd o n).2.length - 1 := by
  unfold putNd
  split
  · rename_i h; exact .inl h
  · right; show o.length = (o ++ [n]).length - 1; simp
end Go.Proofs.Ws
/- Layer 5: the reference's error of any node, and of a list of nodes. -/
namespace Go.Proofs.YtjpmhbnikoggaaaDoor
open Go.RowKit Go.Proofs.Ws
end Go.Proofs.YtjpmhbnikoggaaaDoor
/- Layer 5: nodes compared, a node appended, the reference put. -/
namespace Go.Proofs.YtjpmhbnikoggaaaDoor
open Go.RowKit Go.Proofs.Ws
def eqN (a b : Nd) : Bool := decide (a = b)
theorem eqN_fields (a b : Nd) : (a.op == b.op && (a.i == b.i && (a.e == b.e && (a.g == b.g && (a.x == b.x && a.y == b.y))))) = eqN a b := by
  obtain ⟨a1, a2, a3, a4, a5, a6⟩ := a
  obtain ⟨b1, b2, b3, b4, b5, b6⟩ := b
  unfold eqN
  rw [Bool.eq_iff_iff]
  simp
@[go_sem] theorem Tryd.eqNode (a b : Nd) (w : World) : (Op.equalIn 10000 62 (.agg #[.int .i64 a.op, .int .i64 a.i, .int .i64 a.e, .int .i64 a.g, .int .i64 a.x, .int .i64 a.y]) (.agg #[.int .i64 b.op, .int .i64 b.i, .int .i64 b.e, .int .i64 b.g, .int .i64 b.x, .int .i64 b.y])).run Tryd.prog w = .ok (eqN a b) w := by
  have u3 := Tryd.underlying3
  have a3 := Tryd.isAgg3
  have z3 := Tryd.sizeOf3
  have hS : Tryd.prog.underlying 62 = some (.struct (Tryd.prog.fieldsOf 62)) := by kernel_rfl
  have hp : Tryd.prog.stoodInHeld 62 = false := by kernel_rfl
  rw [show (10000 : Nat) = 9999 + 1 from rfl, run_equalIn_agg w 9999 _ _ _ hS hp]
  simp only [Program.fieldsOf, Tryd.underlying62]
  rw [← eqN_fields]
  go_simp
  by_cases h1 : a.op = b.op <;> by_cases h2 : a.i = b.i <;> by_cases h3 : a.e = b.e <;> by_cases h4 : a.g = b.g <;> by_cases h5 : a.x = b.x <;> by_cases h6 : a.y = b.y <;> simp [h1, h2, h3, h4, h5, h6]
@[go_sem] theorem Tryd.eqNodeGuard : Tryd.prog.eqGuardType Tryd.prog.depth 62 = false := by kernel_rfl
theorem eqRun (a b : Nd) (w : World) : (binOp .eql 62 (.agg #[.int .i64 a.op, .int .i64 a.i, .int .i64 a.e, .int .i64 a.g, .int .i64 a.x, .int .i64 a.y]) (.agg #[.int .i64 b.op, .int .i64 b.i, .int .i64 b.e, .int .i64 b.g, .int .i64 b.x, .int .i64 b.y])).run Tryd.prog w = .ok (.bool (eqN a b)) w := by
  rw [run_eql_struct, Tryd.eqNode]
  rfl
theorem own_slK {w : World} {base : Nat} {e : TypeId} {v : Value} {n size : Nat} {xs : List Value} (h : w.ownsRow base e size v n xs) : ∃ A c, v = .slice A n c := by
  rcases h.2 with ⟨rfl, rfl⟩ | ⟨g, cap, cur, rfl, _⟩
  · exact ⟨_, _, rfl⟩
  · exact ⟨_, _, rfl⟩
theorem own_keep6 {W W' : World} {lo size : Nat} {e : TypeId} {v : Value} {n : Nat} {xs : List Value} (h : W.ownsRow lo e size v n xs) (hk : ∀ g, lo ≤ g → g < W.heap.size → W'.heap[g]? = W.heap[g]?) : W'.ownsRow lo e size v n xs := by
  refine ⟨h.1, ?_⟩
  rcases h.2 with hn | ⟨g, cap, cur, hv, hb, hg, rest⟩
  · exact .inl hn
  · exact .inr ⟨g, cap, cur, hv, hb, by rw [hk g hb (Array.getElem?_eq_some_iff.1 hg).1]; exact hg, rest⟩
theorem addr_zero (b j : Nat) : (⟨b, 0, none⟩ : Addr).add j = ⟨b, j, none⟩ := by
  cases j <;> simp [Addr.add]
theorem Tryd.infoNode : (Tryd.prog.info? 62).map (fun i => (i.zero, i.size, i.bytes)) = some (some (.agg #[.int .i64 0, .int .i64 0, .int .i64 0, .int .i64 0, .int .i64 0, .int .i64 0]), 6, 48) := by kernel_rfl
/-- append of one node to a list of nodes of the call's own -/
theorem wp_appN {ops : Array Oper} {rest : List Oper} {o : Oper} {a : Act} {Q : Exit → Act → World → Prop} {out : List Nd} (n : Nd) (W : World) (hgd : o.guard = none) (s x : Operand)
    (ho : o.op = .call { callee := .builtin .append, args := #[s, x], argTypes := #[26, 26] }) (base b : Nat) (v : Value)
    (hs : a.eval s = v) (hown : W.ownsRow base 62 6 v out.length (nds out)) (hx : a.eval x = .slice (some ⟨b, 0, none⟩) 1 1)
    (hc : ∀ j u, (ndC n)[j]? = some u → W.cell? ⟨b, j, none⟩ = some u) (hl : out.length ≤ 1000) (hbase : base ≤ W.heap.size)
    (h : ∀ v' w', w'.ownsRow base 62 6 v' (out ++ [n]).length (nds (out ++ [n])) → W.grownBy w' v.ownBlock → wpList Tryd.prog ops Q rest (a.put o.dst v') w') : wpList Tryd.prog ops Q (o :: rest) a W := by
  obtain ⟨i0, hi, hz0, hz1, hz2⟩ := info_parts Tryd.infoNode
  refine wpList_append_own W hgd s x 26 ho base 62 i0 _ 6 48 Tryd.underlying26 hi hz0 hz1 hz2 rfl (by decide) v out.length (nds out) hs hown ⟨b, 0, none⟩ 1 1 (ndC n) hx rfl ?_ ?_ (by unfold maxLen; omega) (by omega) hbase ?_
  · intro j u hj
    have := hc j u hj
    rw [addr_zero]
    exact this
  · intro u hu
    simp only [ndC, List.mem_cons, List.not_mem_nil, or_false] at hu
    rcases hu with rfl | rfl | rfl | rfl | rfl | rfl <;> rfl
  · intro v' w' h1 h2 _
    refine h v' w' ?_ h2
    rw [nds_append, List.length_append]
    have e : nds [n] = ndC n := by simp [nds]
    rw [e]
    exact h1
theorem row_new {v : Value} {g3 n c H H0 : Nat} (h : v.ownBlock = some g3 ∨ H ≤ g3) (hH : H0 ≤ H) : (Value.slice (some ⟨g3, 0, none⟩) n c).ownBlock = v.ownBlock ∨ ∃ g, (Value.slice (some ⟨g3, 0, none⟩) n c).ownBlock = some g ∧ H0 ≤ g := by
  rcases h with h | h
  · exact .inl h.symm
  · exact .inr ⟨g3, rfl, by omega⟩
theorem step_appN {ops : Array Oper} {o : Oper} {a : Act} {K : Act → World → Prop} {Q : Exit → Act → World → Prop} {E : Prop} {out : List Nd} (n : Nd) (W : World) (hgd : o.guard = none) (s x : Operand)
    (ho : o.op = .call { callee := .builtin .append, args := #[s, x], argTypes := #[26, 26] }) (base b : Nat) (v : Value)
    (hs : a.eval s = v) (hown : W.ownsRow base 62 6 v out.length (nds out)) (hx : a.eval x = .slice (some ⟨b, 0, none⟩) 1 1)
    (hc : ∀ j u, (ndC n)[j]? = some u → W.cell? ⟨b, j, none⟩ = some u) (hl : out.length ≤ 1000) (hbase : base ≤ W.heap.size)
    (h : ∀ g cap w', w'.ownsRow base 62 6 (.slice (some ⟨g, 0, none⟩) (out.length + 1) cap) (out ++ [n]).length (nds (out ++ [n])) → W.grownBy w' v.ownBlock → (v.ownBlock = some g ∨ W.heap.size ≤ g) → K (a.put o.dst (.slice (some ⟨g, 0, none⟩) (out.length + 1) cap)) w') :
    if Region.wanted o (yielded ops a.tmps) = true then Oper.wp Tryd.prog o a W K Q else E := by
  obtain ⟨i0, hi, hz0, hz1, hz2⟩ := info_parts Tryd.infoNode
  refine step_append_lies W hgd s x 26 ho base 62 i0 _ 6 48 Tryd.underlying26 hi hz0 hz1 hz2 rfl (by decide) v out.length (nds out) hs hown ⟨b, 0, none⟩ 1 1 (ndC n) hx rfl ?_ ?_ (by decide) (by unfold maxLen; omega) (by omega) hbase _ rfl ?_
  · intro j u hj
    have := hc j u hj
    rw [addr_zero]
    exact this
  · intro u hu
    simp only [ndC, List.mem_cons, List.not_mem_nil, or_false] at hu
    rcases hu with rfl | rfl | rfl | rfl | rfl | rfl <;> rfl
  · intro g cap w' h1 h2 h3 _
    refine h g cap w' ?_ h2 (h3.imp id (fun e => by omega))
    rw [nds_append, List.length_append]
    have e : nds [n] = ndC n := by simp [nds]
    rw [e]
    exact h1
end Go.Proofs.YtjpmhbnikoggaaaDoor
/- Layer 5: the state of the reference's walk, and put at it. -/
namespace Go.Proofs.YtjpmhbnikoggaaaDoor
open Go.RowKit Go.Proofs.Ws
def dnV (d : Option Nat) : Value := .int .i64 (match d with | none => -1 | some k => (k : Int))
/-- the walk at block bw: the list so far (a row of its own), and the numbers of the nodes in block bd -/
structure RW (W : World) (base bw bd n : Nat) (s : Wk) : Prop where
  lw : bw < base
  ld : bd < base
  ne : bw ≠ bd
  lb : base ≤ W.heap.size
  out : ∃ A c, W.cell? ⟨bw, 0, none⟩ = some (.slice A s.out.length c) ∧ W.ownsRow base 62 6 (.slice A s.out.length c) s.out.length (nds s.out)
  fout : W.frozen? ⟨bw, 0, none⟩ = false
  dn : ∃ c, W.cell? ⟨bw, 1, none⟩ = some (.slice (some ⟨bd, 0, none⟩) n c)
  len : s.done.length = n
  cells : ∀ j, j < n → W.cell? ⟨bd, j, none⟩ = some (dnV (s.done.getD j none))
  free : ∀ j, j < n → W.frozen? ⟨bd, j, none⟩ = false
def rowOf (W : World) (bw : Nat) : Option Nat := match W.cell? ⟨bw, 0, none⟩ with | some v => v.ownBlock | none => none
/-- what a step of the walk leaves -/
structure Fr (bw bd : Nat) (w w' : World) : Prop where
  os : w'.os = w.os
  tape : w'.tape = w.tape
  output : w'.output = w.output
  size : w.heap.size ≤ w'.heap.size
  block : ∀ g, g < w.heap.size → g ≠ bw → g ≠ bd → some g ≠ rowOf w bw → w'.heap[g]? = w.heap[g]?
  row : rowOf w' bw = rowOf w bw ∨ ∃ g, rowOf w' bw = some g ∧ w.heap.size ≤ g
theorem rowOf_of {W : World} {bw : Nat} {v : Value} (h : W.cell? ⟨bw, 0, none⟩ = some v) : rowOf W bw = v.ownBlock := by unfold rowOf; rw [h]
theorem rowOf_same {w w' : World} {bw : Nat} (h : w'.cell? ⟨bw, 0, none⟩ = w.cell? ⟨bw, 0, none⟩) : rowOf w' bw = rowOf w bw := by unfold rowOf; rw [h]
theorem Fr.of_below {w w' : World} {bw bd : Nat} (h : Below w.heap.size w w') (hb : bw < w.heap.size) : Fr bw bd w w' :=
  ⟨h.os, h.tape, h.output, h.size, fun g hg _ _ _ => h.block g hg, .inl (rowOf_same (h.cell (p := ⟨bw, 0, none⟩) hb))⟩
theorem Fr.trans {a b c : World} {bw bd : Nat} (h : Fr bw bd a b) (k : Fr bw bd b c) : Fr bw bd a c := by
  refine ⟨k.os.trans h.os, k.tape.trans h.tape, k.output.trans h.output, Nat.le_trans h.size k.size, fun g hg h1 h2 h3 => ?_, ?_⟩
  · refine (k.block g (Nat.lt_of_lt_of_le hg h.size) h1 h2 ?_).trans (h.block g hg h1 h2 h3)
    rcases h.row with e | ⟨g2, e, hl⟩
    · rw [e]; exact h3
    · rw [e]; intro e2; injection e2; omega
  · rcases k.row with e | ⟨g2, e, hl⟩
    · rw [e]; exact h.row
    · exact .inr ⟨g2, e, Nat.le_trans h.size hl⟩
theorem RW.below {W W' : World} {base bw bd n : Nat} {s : Wk} (h : RW W base bw bd n s) (hb : Below W.heap.size W W') : RW W' base bw bd n s := by
  have lw := h.lw
  have ld := h.ld
  have lb := h.lb
  obtain ⟨A, c, h1, h2⟩ := h.out
  obtain ⟨c2, h3⟩ := h.dn
  exact ⟨lw, ld, h.ne, Nat.le_trans lb hb.size,
    ⟨A, c, (hb.cell (p := ⟨bw, 0, none⟩) (by show bw < _; omega)).trans h1, own_keep6 h2 (fun g _ hg => hb.block g hg)⟩,
    (hb.frozen (p := ⟨bw, 0, none⟩) (by show bw < _; omega)).trans h.fout, ⟨c2, (hb.cell (p := ⟨bw, 1, none⟩) (by show bw < _; omega)).trans h3⟩, h.len,
    fun j hj => (hb.cell (p := ⟨bd, j, none⟩) (by show bd < _; omega)).trans (h.cells j hj), fun j hj => (hb.frozen (p := ⟨bd, j, none⟩) (by show bd < _; omega)).trans (h.free j hj)⟩
end Go.Proofs.YtjpmhbnikoggaaaDoor
/- Layer 5: the reference's walk: how its state is kept, and finish. -/
namespace Go.Proofs.YtjpmhbnikoggaaaDoor
open Go.RowKit Go.Proofs.Ws
theorem own_keep1K {W W' : World} {lo size : Nat} {e : TypeId} {v : Value} {n : Nat} {xs : List Value} (h : W.ownsRow lo e size v n xs) (hk : ∀ g, v.ownBlock = some g → W'.heap[g]? = W.heap[g]?) : W'.ownsRow lo e size v n xs := by
  refine ⟨h.1, ?_⟩
  rcases h.2 with hn | ⟨g, cap, cur, hv, hb, hg, rest⟩
  · exact .inl hn
  · exact .inr ⟨g, cap, cur, hv, hb, by rw [hk g (by rw [hv]; rfl)]; exact hg, rest⟩
theorem RW.row {W : World} {base bw bd n : Nat} {s : Wk} (h : RW W base bw bd n s) : ∀ g, rowOf W bw = some g → base ≤ g ∧ g < W.heap.size := by
  obtain ⟨A, c, h1, h2⟩ := h.out
  intro g hg
  rw [rowOf_of h1] at hg
  exact h2.lt g hg
theorem RW.keep {W W' : World} {base bw bd n : Nat} {s : Wk} (h : RW W base bw bd n s) (hs : W.heap.size ≤ W'.heap.size) (hw : W'.heap[bw]? = W.heap[bw]?) (hd : W'.heap[bd]? = W.heap[bd]?)
    (hr : ∀ g, rowOf W bw = some g → W'.heap[g]? = W.heap[g]?) : RW W' base bw bd n s := by
  obtain ⟨A, c, h1, h2⟩ := h.out
  obtain ⟨c2, h3⟩ := h.dn
  refine ⟨h.lw, h.ld, h.ne, Nat.le_trans h.lb hs, ⟨A, c, (World.cell?_of_block (a := ⟨bw, 0, none⟩) hw).trans h1, own_keep1K h2 (fun g hg => hr g (by rw [rowOf_of h1]; exact hg))⟩,
    (World.frozen?_of_block (a := ⟨bw, 0, none⟩) hw).trans h.fout, ⟨c2, (World.cell?_of_block (a := ⟨bw, 1, none⟩) hw).trans h3⟩, h.len,
    fun j hj => (World.cell?_of_block (a := ⟨bd, j, none⟩) hd).trans (h.cells j hj), fun j hj => (World.frozen?_of_block (a := ⟨bd, j, none⟩) hd).trans (h.free j hj)⟩
/-- a cell of a block that is no part of the walk is set -/
theorem RW.other {W : World} {base bw bd n : Nat} {s : Wk} (h : RW W base bw bd n s) {g j : Nat} (v : Value) (h1 : g ≠ bw) (h2 : g ≠ bd) (h3 : some g ≠ rowOf W bw) : RW (W.setCell ⟨g, j, none⟩ v) base bw bd n s :=
  h.keep (by simp) (Below.heap_setCell _ _ _ _ h1.symm) (Below.heap_setCell _ _ _ _ h2.symm) (fun k hk => Below.heap_setCell _ _ _ _ (fun e => h3 (by rw [hk, e])))
theorem RW.drewN {W : World} {base bw bd n : Nat} {s : Wk} (h : RW W base bw bd n s) (k : Nat) : RW (W.drewN k) base bw bd n s :=
  h.keep (Nat.le_refl _) rfl rfl (fun _ _ => rfl)
theorem RW.set {W : World} {base bw bd n : Nat} {s : Wk} (h : RW W base bw bd n s) {i : Nat} (hi : i < n) (k : Nat) : RW (W.setCell ⟨bd, i, none⟩ (.int .i64 (k : Int))) base bw bd n ⟨s.out, s.done.set i (some k)⟩ := by
  obtain ⟨A, c, h1, h2⟩ := h.out
  obtain ⟨c2, h3⟩ := h.dn
  have hw : (W.setCell ⟨bd, i, none⟩ (.int .i64 (k : Int))).heap[bw]? = W.heap[bw]? := Below.heap_setCell _ _ _ _ h.ne
  refine ⟨h.lw, h.ld, h.ne, by simpa using h.lb, ⟨A, c, (World.cell?_of_block (a := ⟨bw, 0, none⟩) hw).trans h1, ownsRow_setCell_below h2 h.ld _⟩,
    (World.frozen?_of_block (a := ⟨bw, 0, none⟩) hw).trans h.fout, ⟨c2, (World.cell?_of_block (a := ⟨bw, 1, none⟩) hw).trans h3⟩, by show (s.done.set i (some k)).length = n; rw [List.length_set, h.len],
    fun j hj => ?_, fun j hj => by rw [World.frozen?_setCell]; exact h.free j hj⟩
  show _ = some (dnV ((s.done.set i (some k)).getD j none))
  rw [getD_set (by rw [h.len]; exact hi)]
  by_cases e : i = j
  · subst e
    rw [if_pos rfl]
    exact World.cell?_setCell_same W _ _ (h.cells i hi)
  · rw [if_neg e, World.cell?_setCell_other W ⟨bd, i, none⟩ ⟨bd, j, none⟩ _ (fun e2 => by have h9 := congrArg Addr.off e2; dsimp only at h9; omega)]
    exact h.cells j hj
theorem Fr.low {bw bd : Nat} {w w' : World} (h : Fr bw bd w w') {B : Nat} (h0 : B ≤ w.heap.size) (h1 : B ≤ bw) (h2 : B ≤ bd) (h3 : ∀ g, rowOf w bw = some g → B ≤ g) : Below B w w' :=
  ⟨h.os, h.tape, h.output, h.size, fun g hg => h.block g (by omega) (by omega) (by omega) (fun e => by have := h3 g e.symm; omega)⟩
theorem Fr.other {bw bd : Nat} {w W : World} (h : Fr bw bd w W) {g j : Nat} (v : Value) (h1 : w.heap.size ≤ g) (h2 : g ≠ bw) : Fr bw bd w (W.setCell ⟨g, j, none⟩ v) := by
  refine ⟨h.os, h.tape, h.output, by simpa using h.size, fun k hk a b c => (Below.heap_setCell _ _ _ _ (by show k ≠ g; omega)).trans (h.block k hk a b c), ?_⟩
  have e : rowOf (W.setCell ⟨g, j, none⟩ v) bw = rowOf W bw := rowOf_same (World.cell?_of_block (a := ⟨bw, 0, none⟩) (Below.heap_setCell _ _ _ _ h2.symm))
  rw [e]; exact h.row
theorem Fr.drewN {bw bd : Nat} {w W : World} (h : Fr bw bd w W) (k : Nat) : Fr bw bd w (W.drewN k) :=
  ⟨h.os, h.tape, h.output, h.size, h.block, h.row⟩
/-- how many nodes are finished, and no more nodes in the list -/
def Cnt (s : Wk) : Prop := s.out.length ≤ s.done.countP Option.isSome ∧ ∀ j k, s.done.getD j none = some k → k < s.out.length
theorem Cnt.le {s : Wk} (h : Cnt s) {n : Nat} (hl : s.done.length = n) : s.out.length ≤ n := Nat.le_trans h.1 (hl ▸ List.countP_le_length)
theorem countP_set {l : List (Option Nat)} : ∀ {i : Nat} {k : Nat}, i < l.length → l.getD i none = none → (l.set i (some k)).countP Option.isSome = l.countP Option.isSome + 1 := by
  induction l with
  | nil => intro i k h; simp at h
  | cons a l ih =>
    intro i k h hd
    cases i with
    | zero =>
      have : a = none := hd
      subst this
      simp
    | succ i =>
      have := ih (k := k) (by simpa using h) hd
      simp only [List.set_cons_succ, List.countP_cons, this]
      omega
theorem finW_cnt {f : List Nd} (hf : opsL f) : ∀ (fuel i : Nat) (s : Wk), i < fuel → i < f.length → s.done.length = f.length → Cnt s →
    Cnt (finW f fuel i s).2 ∧ (finW f fuel i s).2.done.length = f.length ∧ (∀ j, i < j → (finW f fuel i s).2.done.getD j none = s.done.getD j none) := by
  intro fuel
  induction fuel with
  | zero => intro i s h; omega
  | succ fuel ih =>
    intro i s h hi hl hc
    unfold finW
    cases hd : s.done.getD i none with
    | some k => exact ⟨hc, hl, fun _ _ => rfl⟩
    | none =>
      simp only
      have ho := hf i hi
      have fin : ∀ (r : Nat × Wk) (m : Nd), Cnt r.2 → r.2.done.length = f.length → (∀ j, i ≤ j → r.2.done.getD j none = s.done.getD j none) →
          Cnt ⟨(putNd r.2.out m).2, r.2.done.set i (some (putNd r.2.out m).1)⟩ ∧ (r.2.done.set i (some (putNd r.2.out m).1)).length = f.length ∧ (∀ j, i < j → (r.2.done.set i (some (putNd r.2.out m).1)).getD j none = s.done.getD j none) := by
        intro r m h1 h2 h3
        refine ⟨?_, by rw [List.length_set, h2], fun j hj => by rw [getD_set (by rw [h2]; exact hi), if_neg (by omega)]; exact h3 j (by omega)⟩
        refine ⟨?_, fun j k hj => ?_⟩
        · show (putNd r.2.out m).2.length ≤ (r.2.done.set i (some (putNd r.2.out m).1)).countP Option.isSome
          rw [countP_set (by rw [h2]; exact hi) (by rw [h3 i (Nat.le_refl _)]; exact hd)]
          have := (putNd_len r.2.out m).1
          have h4 : r.2.out.length ≤ _ := h1.1
          omega
        · show k < (putNd r.2.out m).2.length
          have hj : (r.2.done.set i (some (putNd r.2.out m).1)).getD j none = some k := hj
          rw [getD_set (by rw [h2]; exact hi)] at hj
          by_cases e : i = j
          · rw [if_pos e] at hj
            injection hj with hj
            rw [← hj]; exact (putNd_len r.2.out m).2
          · rw [if_neg e] at hj
            have := h1.2 j k hj
            have := (putNd_pre r.2.out m).length_le
            omega
      by_cases hx : usesX (f.getD i nd0).op = true
      · have ox := opsOk_x ho hx
        rw [if_pos hx]
        obtain ⟨a1, a2, a3⟩ := ih (f.getD i nd0).x.toNat s (by omega) (by omega) hl hc
        by_cases hy : usesY (f.getD i nd0).op = true
        · have oy := opsOk_y ho hy
          rw [if_pos hy]
          obtain ⟨b1, b2, b3⟩ := ih (f.getD i nd0).y.toNat (finW f fuel (f.getD i nd0).x.toNat s).2 (by omega) (by omega) a2 a1
          exact fin _ _ b1 b2 (fun j hj => by rw [b3 j (by omega), a3 j (by omega)])
        · rw [if_neg hy]
          exact fin (_, (finW f fuel (f.getD i nd0).x.toNat s).2) _ a1 a2 (fun j hj => a3 j (by omega))
      · rw [if_neg hx]
        by_cases hy : usesY (f.getD i nd0).op = true
        · exact absurd (usesY_X hy) hx
        · rw [if_neg hy]
          exact fin (_, s) _ hc hl (fun _ _ => rfl)
theorem finW_done {f : List Nd} (_hf : opsL f) : ∀ (fuel i : Nat) (s : Wk), i < fuel → i < f.length → s.done.length = f.length → (finW f fuel i s).2.done.getD i none = some (finW f fuel i s).1 := by
  intro fuel
  have hlen : ∀ (fuel i : Nat) (s : Wk), (finW f fuel i s).2.done.length = s.done.length := by
    intro fuel
    induction fuel with
    | zero => intro i s; rfl
    | succ fuel ih =>
      intro i s
      unfold finW
      cases hd : s.done.getD i none with
      | some k => rfl
      | none =>
        simp only [List.length_set]
        split <;> split <;> simp only [ih]
  cases fuel with
  | zero => intro i s h; omega
  | succ fuel =>
    intro i s h hi hl
    unfold finW
    cases hd : s.done.getD i none with
    | some k => exact hd
    | none =>
      simp only
      rw [getD_set, if_pos rfl]
      split <;> split <;> simp only [hlen] <;> omega
/-- the box of one node, in a block of its own -/
def Box (W : World) (g : Nat) (x : Nd) : Prop :=
  W.cell? ⟨g, 0, none⟩ = some (.int .i64 x.op) ∧ W.cell? ⟨g, 1, none⟩ = some (.int .i64 x.i) ∧ W.cell? ⟨g, 2, none⟩ = some (.int .i64 x.e) ∧ W.cell? ⟨g, 3, none⟩ = some (.int .i64 x.g) ∧ W.cell? ⟨g, 4, none⟩ = some (.int .i64 x.x) ∧ W.cell? ⟨g, 5, none⟩ = some (.int .i64 x.y) ∧ ∀ j, W.frozen? ⟨g, j, none⟩ = false
theorem Box.keep {W W' : World} {g : Nat} {x : Nd} (h : Box W g x) (hb : W'.heap[g]? = W.heap[g]?) : Box W' g x := by
  obtain ⟨h0, h1, h2, h3, h4, h5, hf⟩ := h
  have e : ∀ j, W'.cell? ⟨g, j, none⟩ = W.cell? ⟨g, j, none⟩ := fun j => World.cell?_of_block (a := ⟨g, j, none⟩) hb
  exact ⟨(e 0).trans h0, (e 1).trans h1, (e 2).trans h2, (e 3).trans h3, (e 4).trans h4, (e 5).trans h5, fun j => (World.frozen?_of_block (a := ⟨g, j, none⟩) hb).trans (hf j)⟩
theorem Box.setX {W : World} {g : Nat} {x : Nd} (h : Box W g x) (v : Int) : Box (W.setCell ⟨g, 4, none⟩ (.int .i64 v)) g { x with x := v } := by
  obtain ⟨h0, h1, h2, h3, h4, h5, hf⟩ := h
  have e : ∀ j, j ≠ 4 → (W.setCell ⟨g, 4, none⟩ (.int .i64 v)).cell? ⟨g, j, none⟩ = W.cell? ⟨g, j, none⟩ := fun j hj => World.cell?_setCell_other W ⟨g, 4, none⟩ ⟨g, j, none⟩ _ (fun e2 => by have h9 := congrArg Addr.off e2; have h9 : _ = _ := h9; dsimp only at h9; omega)
  exact ⟨(e 0 (by decide)).trans h0, (e 1 (by decide)).trans h1, (e 2 (by decide)).trans h2, (e 3 (by decide)).trans h3, World.cell?_setCell_same W _ _ h4, (e 5 (by decide)).trans h5, fun j => by rw [World.frozen?_setCell]; exact hf j⟩
theorem Box.setY {W : World} {g : Nat} {x : Nd} (h : Box W g x) (v : Int) : Box (W.setCell ⟨g, 5, none⟩ (.int .i64 v)) g { x with y := v } := by
  obtain ⟨h0, h1, h2, h3, h4, h5, hf⟩ := h
  have e : ∀ j, j ≠ 5 → (W.setCell ⟨g, 5, none⟩ (.int .i64 v)).cell? ⟨g, j, none⟩ = W.cell? ⟨g, j, none⟩ := fun j hj => World.cell?_setCell_other W ⟨g, 5, none⟩ ⟨g, j, none⟩ _ (fun e2 => by have h9 := congrArg Addr.off e2; have h9 : _ = _ := h9; dsimp only at h9; omega)
  exact ⟨(e 0 (by decide)).trans h0, (e 1 (by decide)).trans h1, (e 2 (by decide)).trans h2, (e 3 (by decide)).trans h3, (e 4 (by decide)).trans h4, World.cell?_setCell_same W _ _ h5, fun j => by rw [World.frozen?_setCell]; exact hf j⟩
theorem Box.made (w : World) (x : Nd) (t : TypeId) : Box (w.alloc (.cells #[.int .i64 x.op, .int .i64 x.i, .int .i64 x.e, .int .i64 x.g, .int .i64 x.x, .int .i64 x.y] t)) w.heap.size x := by
  have hh := heap_alloc_new w (.cells #[.int .i64 x.op, .int .i64 x.i, .int .i64 x.e, .int .i64 x.g, .int .i64 x.x, .int .i64 x.y] t)
  have := Lib.cell_of_heap hh
  exact ⟨this 0, this 1, this 2, this 3, this 4, this 5, fun j => Lib.frozen_of_heap hh j⟩
/-- a state of the reference's finish: the walk, the list that is read, the box of the node, what has been left -/
structure RQ (w W : World) (B base bw bd n : Nat) (A : Option Addr) (f : List Nd) (s : Wk) (x : Nd) : Prop where
  st : RW W base bw bd n s
  rd : Reads W B 6 A n (nds f)
  bx : Box W w.heap.size x
  fr : Fr bw bd w W
  lt : w.heap.size < W.heap.size
  rg : some w.heap.size ≠ rowOf W bw
  bs : base ≤ w.heap.size
theorem RQ.start {w : World} {B base bw bd n : Nat} {A : Option Addr} {f : List Nd} {s : Wk} (h : RW w base bw bd n s) (hR : Reads w B 6 A n (nds f)) (hB : B ≤ w.heap.size) (x : Nd) (t : TypeId) :
    RQ w (w.alloc (.cells #[.int .i64 x.op, .int .i64 x.i, .int .i64 x.e, .int .i64 x.g, .int .i64 x.x, .int .i64 x.y] t)) B base bw bd n A f s x := by
  have hb : Below w.heap.size w (w.alloc (.cells #[.int .i64 x.op, .int .i64 x.i, .int .i64 x.e, .int .i64 x.g, .int .i64 x.x, .int .i64 x.y] t)) := (Below.refl _ w).alloc (Nat.le_refl _) _
  have lw : bw < w.heap.size := Nat.lt_of_lt_of_le h.lw h.lb
  refine ⟨h.below hb, hR.alloc hB _, Box.made w x t, Fr.of_below hb lw, by simp, ?_, h.lb⟩
  rw [rowOf_same (hb.cell (p := ⟨bw, 0, none⟩) lw)]
  intro e
  have := (h.row _ e.symm).2
  omega
theorem RQ.step {w W W' : World} {B base bw bd n : Nat} {A : Option Addr} {f : List Nd} {s s' : Wk} {x : Nd} (h : RQ w W B base bw bd n A f s x) (hS : RW W' base bw bd n s') (hF : Fr bw bd W W') (hB1 : B ≤ bw) (hB2 : B ≤ bd) (_hB3 : B ≤ base) :
    RQ w W' B base bw bd n A f s' x := by
  have l0 := h.st.lb
  have lw := h.st.lw
  have ld := h.st.ld
  have l1 := h.fr.size
  have hb := hF.low (B := B) (by omega) hB1 hB2 (fun g hg => by have := (h.st.row g hg).1; omega)
  have l3 := h.bs
  have hne : w.heap.size ≠ bw ∧ w.heap.size ≠ bd := ⟨by omega, by omega⟩
  refine ⟨hS, h.rd.below hb, h.bx.keep (hF.block _ h.lt hne.1 hne.2 h.rg), h.fr.trans hF, Nat.lt_of_lt_of_le h.lt hF.size, ?_, h.bs⟩
  rcases hF.row with e | ⟨g, e, hl⟩
  · rw [e]; exact h.rg
  · rw [e]; intro e2; injection e2; have := h.lt; omega
theorem RQ.set {w W : World} {B base bw bd n : Nat} {A : Option Addr} {f : List Nd} {s : Wk} {x x' : Nd} (h : RQ w W B base bw bd n A f s x) {j : Nat} {v : Value} (hx : Box (W.setCell ⟨w.heap.size, j, none⟩ v) w.heap.size x') (hB3 : B ≤ base) :
    RQ w (W.setCell ⟨w.heap.size, j, none⟩ v) B base bw bd n A f s x' := by
  have l0 := h.bs
  have lw := h.st.lw
  have ld := h.st.ld
  refine ⟨h.st.other v (by omega) (by omega) h.rg, h.rd.setCell (by show B ≤ w.heap.size; omega) v, hx, h.fr.other v (Nat.le_refl _) (by omega), by simpa using h.lt, ?_, l0⟩
  rw [rowOf_same (World.cell?_of_block (a := ⟨bw, 0, none⟩) (Below.heap_setCell _ _ _ _ (by show bw ≠ w.heap.size; omega)))]
  exact h.rg
end Go.Proofs.YtjpmhbnikoggaaaDoor
