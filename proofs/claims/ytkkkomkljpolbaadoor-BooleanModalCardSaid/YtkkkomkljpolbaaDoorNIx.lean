/- Layer 9: the formula that knows the facts, as the law's loop builds it. -/
import Derived.Test.YtkkkomkljpolbaaDoorNEb
import Derived.Test.YtkkkomkljpolbaaDoorNIv
namespace Go.Proofs.YtkkkomkljpolbaaDoor
open Go.RowKit Go.Proofs.Ws Go.Maps
set_option maxRecDepth 100000
theorem opsL_add {O : List Nd} (h : opsL O) {n : Nd} (hn : opsOk n O.length) : opsL (O ++ [n]) := by
  intro i hi
  rw [List.length_append] at hi
  simp at hi
  by_cases e : i < O.length
  · rw [List.getD_eq_getElem?_getD, List.getElem?_append_left e, ← List.getD_eq_getElem?_getD]
    exact h i e
  · have : i = O.length := by omega
    subst this
    rw [List.getD_eq_getElem?_getD, List.getElem?_append_right (Nat.le_refl _), Nat.sub_self]
    exact hn
theorem getD_last {O : List Nd} {n : Nd} : (O ++ [n]).getD O.length nd0 = n := by
  rw [List.getD_eq_getElem?_getD, List.getElem?_append_right (Nat.le_refl _), Nat.sub_self]
  rfl
/-- the state of the loop -/
structure KnOk (f : List Nd) (a : Int) (i : Nat) (O : List Nd) (T : List Nat) : Prop where
  tl : T.length = i
  ops : opsL O
  fld : ∀ n ∈ O, fldOk n
  lt : ∀ j, j < i → T.getD j 0 < O.length
  tree : ∀ j, j < i → treeAt O (T.getD j 0) = mapT (knR a) (treeAt f j)
  len : O.length ≤ 2 * i
  last : 0 < i → T.getD (i - 1) 0 + 1 = O.length
theorem KnOk.start (f : List Nd) (a : Int) : KnOk f a 0 [] [] :=
  ⟨rfl, fun i h => absurd h (by simp), fun n h => absurd h (by simp), fun j h => absurd h (by omega), fun j h => absurd h (by omega), Nat.le_refl _, fun h => absurd h (by omega)⟩
theorem knd_ok {a : Int} (ha : 0 ≤ a ∧ a < 4) (k : Nat) : fldOk ⟨9, a, 0, 0, (k : Int), 0⟩ := by
  refine ⟨by show known 9 = true; decide, ⟨.inr (.inl (by show hasAgent 9 = true; decide)), .inr rfl, .inr rfl⟩, ?_⟩
  show rangeOk ⟨9, a, 0, 0, (k : Int), 0⟩ = true
  unfold rangeOk
  have e : shN 9 = 4 := by decide
  have e2 : shE 9 = 0 := by decide
  have e3 : shG 9 = 0 := by decide
  simp [e, e2, e3]
  omega
theorem fld_move {n : Nd} (h : fldOk n) (x y : Int) : fldOk { n with x := x, y := y } := h
theorem getD_app {T : List Nat} {i j v : Nat} (ht : T.length = i) : (T ++ [v]).getD j 0 = if j = i then v else T.getD j 0 := by
  rw [List.getD_eq_getElem?_getD]
  by_cases e : j = i
  · rw [if_pos e, e, ← ht, List.getElem?_append_right (Nat.le_refl _), Nat.sub_self]; rfl
  · rw [if_neg e]
    by_cases h : j < T.length
    · rw [List.getElem?_append_left h, ← List.getD_eq_getElem?_getD]
    · rw [List.getElem?_append_right (by omega), List.getD_eq_getElem?_getD, List.getElem?_eq_none (l := T) (by omega)]
      rw [List.getElem?_eq_none (by simp; omega)]
section
variable {f O : List Nd} {a : Int} {i : Nat} {T : List Nat}
/-- one node is appended -/
theorem KnOk.snoc (h : KnOk f a i O T) {E : List Nd} {n : Nd} (hE : opsL (O ++ E ++ [n])) (hF : ∀ m ∈ E ++ [n], fldOk m) (hl : E.length ≤ 1) (ht : treeAt (O ++ E ++ [n]) (O ++ E).length = mapT (knR a) (treeAt f i)) : KnOk f a (i + 1) (O ++ E ++ [n]) (T ++ [(O ++ E).length]) := by
  have htl := h.tl
  refine ⟨by simp [htl], hE, fun m hm => ?_, fun j hj => ?_, fun j hj => ?_, ?_, fun _ => ?_⟩
  · rw [List.append_assoc] at hm
    rcases List.mem_append.1 hm with hm | hm
    · exact h.fld m hm
    · exact hF m hm
  · rw [getD_app htl]
    by_cases e : j = i
    · rw [if_pos e]; simp
    · rw [if_neg e]
      have := h.lt j (by omega)
      rw [List.length_append, List.length_append]
      omega
  · rw [getD_app htl]
    by_cases e : j = i
    · rw [if_pos e, e]; exact ht
    · rw [if_neg e]
      have h2 := h.lt j (by omega)
      rw [List.append_assoc] at hE ⊢
      rw [treeAt_left hE h2]
      exact h.tree j (by omega)
  · have := h.len
    simp
    omega
  · rw [getD_app htl, if_pos (by omega)]
    simp
    omega
theorem KnOk.fact (h : KnOk f a i O T) (hf : opsL f) (hi : i < f.length) (hk : fldOk (f.getD i nd0)) (h3 : (f.getD i nd0).op = 3) (ha : 0 ≤ a ∧ a < 4) :
    KnOk f a (i + 1) (O ++ [f.getD i nd0] ++ [⟨9, a, 0, 0, (O.length : Int), 0⟩]) (T ++ [O.length + 1]) := by
  have ho := hf i hi
  have hx : opsOk (f.getD i nd0) O.length := by
    unfold opsOk at ho ⊢
    rw [h3] at ho ⊢
    exact ho
  have h1 := opsL_add h.ops hx
  have h2 : opsL (O ++ [f.getD i nd0] ++ [⟨9, a, 0, 0, (O.length : Int), 0⟩]) := opsL_add h1 (by
    have e : (O ++ [f.getD i nd0]).length = O.length + 1 := by simp
    rw [e]
    refine ⟨?_, ?_⟩
    · show (if usesX 9 = true then _ else _)
      rw [if_pos (by decide)]
      show (0 : Int) ≤ (O.length : Int) ∧ (O.length : Int) < ((O.length + 1 : Nat) : Int)
      omega
    · show (if usesY 9 = true then _ else _)
      rw [if_neg (by decide)])
  have e : (O ++ [f.getD i nd0]).length = O.length + 1 := by simp
  have key := h.snoc (E := [f.getD i nd0]) (n := ⟨9, a, 0, 0, (O.length : Int), 0⟩) h2 (fun m hm => by
    rcases List.mem_append.1 hm with hm | hm
    · rw [List.mem_singleton.1 hm]; exact hk
    · rw [List.mem_singleton.1 hm]; exact knd_ok ha _) (by simp) (by
    rw [treeAt_eq h2 (by simp), getD_last]
    have u1 : usesY 9 = false := by decide
    have u2 : usesX 9 = true := by decide
    show (if usesY 9 = true then _ else if usesX 9 = true then Tr.un (bare ⟨9, a, 0, 0, (O.length : Int), 0⟩) (treeAt _ ((O.length : Int)).toNat) else _) = _
    rw [if_neg (by rw [u1]; decide), if_pos u2, Int.toNat_natCast, treeAt_left h2 (by simp)]
    have e3 : treeAt (O ++ [f.getD i nd0]) O.length = .leaf (bare (f.getD i nd0)) := by
      rw [treeAt_eq h1 (by simp), getD_last, if_neg (by rw [h3]; decide), if_neg (by rw [h3]; decide)]
    rw [e3, treeAt_eq hf hi, if_neg (by rw [h3]; decide), if_neg (by rw [h3]; decide)]
    show _ = knR a (bare (f.getD i nd0)) noT noT
    unfold knR
    rw [if_pos (show (bare (f.getD i nd0)).op = 3 from h3)]
    rfl)
  rw [e] at key
  exact key
/-- the node with its operands moved -/
def mvN (T : List Nat) (n : Nd) : Nd := { n with x := if usesX n.op = true then ((T.getD n.x.toNat 0 : Nat) : Int) else n.x, y := if usesY n.op = true then ((T.getD n.y.toNat 0 : Nat) : Int) else n.y }
theorem KnOk.other (h : KnOk f a i O T) (hf : opsL f) (hi : i < f.length) (hk : fldOk (f.getD i nd0)) (h3 : (f.getD i nd0).op ≠ 3) :
    KnOk f a (i + 1) (O ++ [mvN T (f.getD i nd0)]) (T ++ [O.length]) := by
  have ho := hf i hi
  generalize hn : f.getD i nd0 = n at *
  have hx : ∀ hu : usesX n.op = true, n.x.toNat < i := fun hu => (opsOk_x ho hu).2
  have hy : ∀ hu : usesY n.op = true, n.y.toNat < i := fun hu => (opsOk_y ho hu).2
  have hop : opsOk (mvN T n) O.length := by
    refine ⟨?_, ?_⟩
    · show (if usesX n.op = true then _ else _)
      by_cases hu : usesX n.op = true
      · rw [if_pos hu]
        show (0 : Int) ≤ (if usesX n.op = true then _ else _) ∧ (if usesX n.op = true then _ else _) < _
        rw [if_pos hu]
        have := h.lt _ (hx hu)
        omega
      · rw [if_neg hu]
        show (if usesX n.op = true then _ else _) = (0 : Int)
        rw [if_neg hu]
        have := ho.1
        rw [if_neg hu] at this
        exact this
    · show (if usesY n.op = true then _ else _)
      by_cases hu : usesY n.op = true
      · rw [if_pos hu]
        show (0 : Int) ≤ (if usesY n.op = true then _ else _) ∧ (if usesY n.op = true then _ else _) < _
        rw [if_pos hu]
        have := h.lt _ (hy hu)
        omega
      · rw [if_neg hu]
        show (if usesY n.op = true then _ else _) = (0 : Int)
        rw [if_neg hu]
        have := ho.2
        rw [if_neg hu] at this
        exact this
  have h1 := opsL_add h.ops hop
  have key := h.snoc (E := []) (n := mvN T n) (by simpa using h1) (fun m hm => by
    rw [List.nil_append, List.mem_singleton] at hm
    rw [hm]; exact fld_move hk _ _) (by simp) (by
    rw [List.append_nil, treeAt_eq h1 (by simp), getD_last, treeAt_eq hf hi, hn]
    show (if usesY n.op = true then _ else if usesX n.op = true then _ else _) = _
    have eb : bare (mvN T n) = bare n := rfl
    rw [eb]
    have h3b : (bare n).op ≠ 3 := h3
    by_cases hu : usesY n.op = true
    · have hux := usesY_X hu
      rw [if_pos hu, if_pos hu]
      show _ = knR a (bare n) (mapT (knR a) _) (mapT (knR a) _)
      unfold knR
      rw [if_neg h3b]
      unfold mkT
      rw [if_pos (show usesY (bare n).op = true from hu)]
      have ex : (mvN T n).x.toNat = T.getD n.x.toNat 0 := by unfold mvN; rw [if_pos hux]; exact Int.toNat_natCast _
      have ey : (mvN T n).y.toNat = T.getD n.y.toNat 0 := by unfold mvN; rw [if_pos hu]; exact Int.toNat_natCast _
      rw [ex, ey, treeAt_left h1 (h.lt _ (hx hux)), treeAt_left h1 (h.lt _ (hy hu)), h.tree _ (hx hux), h.tree _ (hy hu)]
      rfl
    · rw [if_neg hu, if_neg hu]
      by_cases hux : usesX n.op = true
      · rw [if_pos hux, if_pos hux]
        show _ = knR a (bare n) (mapT (knR a) _) noT
        unfold knR
        rw [if_neg h3b]
        unfold mkT
        rw [if_neg (show ¬ usesY (bare n).op = true from hu), if_pos (show usesX (bare n).op = true from hux)]
        have ex : (mvN T n).x.toNat = T.getD n.x.toNat 0 := by unfold mvN; rw [if_pos hux]; exact Int.toNat_natCast _
        rw [ex, treeAt_left h1 (h.lt _ (hx hux)), h.tree _ (hx hux)]
        rfl
      · rw [if_neg hux, if_neg hux]
        show _ = knR a (bare n) noT noT
        unfold knR
        rw [if_neg h3b]
        unfold mkT
        rw [if_neg (show ¬ usesY (bare n).op = true from hu), if_neg (show ¬ usesX (bare n).op = true from hux)])
  rw [List.append_nil] at key
  exact key
end
end Go.Proofs.YtkkkomkljpolbaaDoor
