/- Layer 6: texts joined: Mg Mh Mi Mj. -/
import Derived.Test.YtkkkomkljpolbaaDoorMJj
/- Layer 5: renumber by a shift. -/
namespace Go.Proofs.Ws
open Go
/-- a node with its operands moved -/
def shiftN (s : Nat) (n : Nd) : Nd := { n with x := if usesX n.op = true then n.x + s else n.x, y := if usesY n.op = true then n.y + s else n.y }
end Go.Proofs.Ws
namespace Go.Proofs.YtkkkomkljpolbaaDoor
open Go.RowKit Go.Proofs.Ws Go.Maps
/-- the boxes of renumber, where the closure only reads -/
structure SQ (w W : World) (g0 g1 g2 : Nat) (x : Nd) (a1 a2 a3 a4 : Int) : Prop where
  bx : Box W g0 x
  rs : W.heap[g1]? = some (.cells #[.int .i64 0, .int .i64 0, .int .i64 0, .int .i64 0, .int .i64 0, .int .i64 0] 62 (0, 0))
  sh : W.heap[g2]? = some (.cells #[.int .i64 a1, .int .i64 a2, .int .i64 a3, .int .i64 a4] 133 (0, 0))
  be : Below w.heap.size w W
  l0 : w.heap.size ≤ g0
  n01 : g0 ≠ g1
  n02 : g0 ≠ g2
theorem SQ.set {w W : World} {g0 g1 g2 j : Nat} {x x' : Nd} {a1 a2 a3 a4 : Int} {v : Value} (h : SQ w W g0 g1 g2 x a1 a2 a3 a4) (hx : Box (W.setCell ⟨g0, j, none⟩ v) g0 x') : SQ w (W.setCell ⟨g0, j, none⟩ v) g0 g1 g2 x' a1 a2 a3 a4 :=
  ⟨hx, (Below.heap_setCell _ _ _ _ h.n01.symm).trans h.rs, (Below.heap_setCell _ _ _ _ h.n02.symm).trans h.sh, h.be.setCell h.l0 _, h.l0, h.n01, h.n02⟩
theorem SQ.cells {w W : World} {g0 g1 g2 : Nat} {x : Nd} {a1 a2 a3 a4 : Int} (h : SQ w W g0 g1 g2 x a1 a2 a3 a4) : W.cell? ⟨g2, 3, none⟩ = some (.int .i64 a4) := Lib.cell_of_heap h.sh 3
theorem SQ.zero {w W : World} {g0 g1 g2 : Nat} {x : Nd} {a1 a2 a3 a4 : Int} (h : SQ w W g0 g1 g2 x a1 a2 a3 a4) : Box W g1 ⟨0, 0, 0, 0, 0, 0⟩ := by
  have := Lib.cell_of_heap h.rs
  exact ⟨this 0, this 1, this 2, this 3, this 4, this 5, fun j => Lib.frozen_of_heap h.rs j⟩
theorem SQ.done {w W : World} {g0 g1 g2 : Nat} {x : Nd} {a1 a2 a3 a4 : Int} (h : SQ w W g0 g1 g2 x a1 a2 a3 a4) (hl : w.heap.size ≤ g1) (z : Nd) : Below w.heap.size w (putBox W g1 z) :=
  (((((h.be.setCell hl _).setCell hl _).setCell hl _).setCell hl _).setCell hl _).setCell hl _
theorem SQ.start {w w1 : World} (x : Nd) (a1 a2 a3 a4 : Int)
    (hb : Below ((w.alloc (.cells #[.int .i64 x.op, .int .i64 x.i, .int .i64 x.e, .int .i64 x.g, .int .i64 x.x, .int .i64 x.y] 62)).alloc (.cells #[.int .i64 0, .int .i64 0, .int .i64 0, .int .i64 0, .int .i64 0, .int .i64 0] 62)).heap.size
      ((w.alloc (.cells #[.int .i64 x.op, .int .i64 x.i, .int .i64 x.e, .int .i64 x.g, .int .i64 x.x, .int .i64 x.y] 62)).alloc (.cells #[.int .i64 0, .int .i64 0, .int .i64 0, .int .i64 0, .int .i64 0, .int .i64 0] 62)) w1) :
    SQ w (w1.alloc (.cells #[.int .i64 a1, .int .i64 a2, .int .i64 a3, .int .i64 a4] 133)) w.heap.size (w.heap.size + 1) w1.heap.size x a1 a2 a3 a4 := by
  have hs1 : (w.alloc (.cells #[.int .i64 x.op, .int .i64 x.i, .int .i64 x.e, .int .i64 x.g, .int .i64 x.x, .int .i64 x.y] 62)).heap.size = w.heap.size + 1 := by simp
  have hbx := Box.made w x 62
  have hba : Below w.heap.size w (w.alloc (.cells #[.int .i64 x.op, .int .i64 x.i, .int .i64 x.e, .int .i64 x.g, .int .i64 x.x, .int .i64 x.y] 62)) := (Below.refl _ w).alloc (Nat.le_refl _) _
  generalize w.alloc (.cells #[.int .i64 x.op, .int .i64 x.i, .int .i64 x.e, .int .i64 x.g, .int .i64 x.x, .int .i64 x.y] 62) = wa at *
  have hs2 : (wa.alloc (.cells #[.int .i64 0, .int .i64 0, .int .i64 0, .int .i64 0, .int .i64 0, .int .i64 0] 62)).heap.size = w.heap.size + 2 := by simp; omega
  have hr0 := heap_alloc_new wa (.cells #[.int .i64 0, .int .i64 0, .int .i64 0, .int .i64 0, .int .i64 0, .int .i64 0] 62)
  have hbb : Below wa.heap.size wa (wa.alloc (.cells #[.int .i64 0, .int .i64 0, .int .i64 0, .int .i64 0, .int .i64 0, .int .i64 0] 62)) := (Below.refl _ wa).alloc (Nat.le_refl _) _
  generalize wa.alloc (.cells #[.int .i64 0, .int .i64 0, .int .i64 0, .int .i64 0, .int .i64 0, .int .i64 0] 62) = wb at *
  have hbc : Below w1.heap.size w1 (w1.alloc (.cells #[.int .i64 a1, .int .i64 a2, .int .i64 a3, .int .i64 a4] 133)) := (Below.refl _ w1).alloc (Nat.le_refl _) _
  have hsh := heap_alloc_new w1 (.cells #[.int .i64 a1, .int .i64 a2, .int .i64 a3, .int .i64 a4] 133)
  generalize w1.alloc (.cells #[.int .i64 a1, .int .i64 a2, .int .i64 a3, .int .i64 a4] 133) = w2 at *
  have s1 := hb.size
  have hall : Below w.heap.size w w2 := (hba.trans (hbb.mono (by omega))).trans ((hb.mono (by omega)).trans (hbc.mono (by omega)))
  refine ⟨hbx.keep ?_, ?_, hsh, hall, Nat.le_refl _, by omega, by omega⟩
  · exact (hbc.block _ (by omega)).trans ((hb.block _ (by omega)).trans (hbb.block _ (by omega)))
  · rw [hs1] at hr0
    exact (hbc.block _ (by omega)).trans ((hb.block _ (by omega)).trans hr0)
end Go.Proofs.YtkkkomkljpolbaaDoor
/- Layer 5: appendShifted. -/
namespace Go.Proofs.YtkkkomkljpolbaaDoor
open Go.RowKit Go.Proofs.Ws Go.Maps
end Go.Proofs.YtkkkomkljpolbaaDoor
/- Layer 5: build. -/
namespace Go.Proofs.Ws
open Go
/-- the lists one behind the other, with operands at their new places -/
def catS : List (List Nd) → List Nd → List Nd
  | [], l => l
  | f :: fs, l => catS fs (l ++ f.map (shiftN l.length))
/-- the node behind the lists of its operands -/
def lastN (n : Nd) (fs : List (List Nd)) : Nd :=
  match fs with
  | [] => n
  | [f] => { n with x := (f.length : Int) - 1 }
  | [f, g] => { n with x := (f.length : Int) - 1, y := (f.length + g.length : Int) - 1 }
  | _ => n
def buildF (n : Nd) (fs : List (List Nd)) : List Nd :=
  if rangeOk n = false then [] else if ∃ f ∈ fs, fErr f ≠ 0 then [] else
  if 200 < (canonF (catS fs [] ++ [lastN n fs])).length then [] else canonF (catS fs [] ++ [lastN n fs])
end Go.Proofs.Ws
namespace Go.Proofs.YtkkkomkljpolbaaDoor
open Go.RowKit Go.Proofs.Ws Go.Maps
/-- two numbers in a block -/
def EB (W : World) (g : Nat) (e0 e1 : Int) : Prop := W.cell? ⟨g, 0, none⟩ = some (.int .i64 e0) ∧ W.cell? ⟨g, 1, none⟩ = some (.int .i64 e1) ∧ (∀ j, W.frozen? ⟨g, j, none⟩ = false)
theorem EB.keep {W W' : World} {g : Nat} {e0 e1 : Int} (h : EB W g e0 e1) (hb : W'.heap[g]? = W.heap[g]?) : EB W' g e0 e1 :=
  ⟨(World.cell?_of_block (a := ⟨g, 0, none⟩) hb).trans h.1, (World.cell?_of_block (a := ⟨g, 1, none⟩) hb).trans h.2.1, fun j => (World.frozen?_of_block (a := ⟨g, j, none⟩) hb).trans (h.2.2 j)⟩
theorem EB.set {W : World} {g : Nat} {e0 e1 : Int} (h : EB W g e0 e1) {k : Nat} (hk : k < 2) (v : Int) : EB (W.setCell ⟨g, k, none⟩ (.int .i64 v)) g (if k = 0 then v else e0) (if k = 1 then v else e1) := by
  obtain ⟨h0, h1, hf⟩ := h
  match k, hk with
  | 0, _ => exact ⟨World.cell?_setCell_same W _ _ h0, (World.cell?_setCell_other W ⟨g, 0, none⟩ ⟨g, 1, none⟩ _ (by simp)).trans h1, fun j => by rw [World.frozen?_setCell]; exact hf j⟩
  | 1, _ => exact ⟨(World.cell?_setCell_other W ⟨g, 1, none⟩ ⟨g, 0, none⟩ _ (by simp)).trans h0, World.cell?_setCell_same W _ _ h1, fun j => by rw [World.frozen?_setCell]; exact hf j⟩
theorem EB.made (w : World) (t : TypeId) : EB (w.alloc (.cells #[.int .i64 0, .int .i64 0] t)) w.heap.size 0 0 := by
  have hh := heap_alloc_new w (.cells #[.int .i64 0, .int .i64 0] t)
  have hc := Lib.cell_of_heap hh
  exact ⟨hc 0, hc 1, fun j => Lib.frozen_of_heap hh j⟩
theorem catS_app : ∀ (fs : List (List Nd)) (f : List Nd) (l : List Nd), catS (fs ++ [f]) l = catS fs l ++ f.map (shiftN (catS fs l).length)
  | [], _f, _l => rfl
  | _g :: fs, f, _l => catS_app fs f _
def catKn (fs : List (List Nd)) (k : Nat) : List Nd := catS (fs.take k) []
theorem catK_succ (fs : List (List Nd)) (k : Nat) (h : k < fs.length) : catKn fs (k + 1) = catKn fs k ++ (fs.getD k []).map (shiftN (catKn fs k).length) := by
  unfold catKn
  rw [List.take_succ_eq_append_getElem h, catS_app, show fs.getD k [] = fs[k] from by simp [h]]
end Go.Proofs.YtkkkomkljpolbaaDoor
/- Layer 5: the constructors of the program. -/
namespace Go.Proofs.YtkkkomkljpolbaaDoor
open Go.RowKit Go.Proofs.Ws Go.Maps
theorem shiftN_ops {s k : Nat} {n : Nd} (h : opsOk n k) : opsOk (shiftN s n) (s + k) := by
  obtain ⟨h1, h2⟩ := h
  unfold opsOk shiftN
  dsimp only
  constructor
  · by_cases hx : usesX n.op = true
    · rw [if_pos hx] at h1 ⊢
      rw [if_pos hx]; omega
    · rw [if_neg hx] at h1 ⊢
      rw [if_neg hx]; exact h1
  · by_cases hy : usesY n.op = true
    · rw [if_pos hy] at h2 ⊢
      rw [if_pos hy]; omega
    · rw [if_neg hy] at h2 ⊢
      rw [if_neg hy]; exact h2
theorem catK_ok (fs : List (List Nd)) (h : ∀ f ∈ fs, fErr f = 0) : ∀ k, k ≤ fs.length → opsL (catKn fs k) ∧ (∀ n ∈ catKn fs k, fldOk n) ∧ (catKn fs k).length ≤ 200 * k := by
  intro k
  induction k with
  | zero => intro _; exact ⟨fun i hi => absurd hi (by simp [catKn, catS]), fun n hn => absurd hn (by simp [catKn, catS]), by simp [catKn, catS]⟩
  | succ k ih =>
    intro hk
    obtain ⟨i1, i2, i3⟩ := ih (by omega)
    have hz : fErr (fs.getD k []) = 0 := by
      rw [show fs.getD k [] = fs[k] from by simp [show k < fs.length by omega]]
      exact h _ (List.getElem_mem _)
    rw [catK_succ fs k (by omega)]
    have h2 := (fErr_ok hz).2.1
    have hf := fErr_fld hz
    have ho := fErr_ops hz
    generalize fs.getD k [] = f at *
    generalize catKn fs k = l at *
    refine ⟨fun i hi => ?_, fun n hn => ?_, by rw [List.length_append, List.length_map]; omega⟩
    · rw [List.length_append, List.length_map] at hi
      by_cases e : i < l.length
      · rw [List.getD_eq_getElem?_getD, List.getElem?_append_left e, ← List.getD_eq_getElem?_getD]
        exact i1 i e
      · have hi2 : i - l.length < f.length := by omega
        have e2 : (l ++ f.map (shiftN l.length)).getD i nd0 = shiftN l.length (f.getD (i - l.length) nd0) := by
          rw [List.getD_eq_getElem?_getD, List.getElem?_append_right (by omega), List.getElem?_map]
          simp [hi2]
        rw [e2]
        have := shiftN_ops (s := l.length) (ho (i - l.length) hi2)
        rw [show l.length + (i - l.length) = i from by omega] at this
        exact this
    · rcases List.mem_append.1 hn with hn | hn
      · exact i2 n hn
      · obtain ⟨m, hm, rfl⟩ := List.mem_map.1 hn
        exact hf m hm
theorem snoc_ok {l : List Nd} {n : Nd} (h1 : opsL l) (h2 : ∀ m ∈ l, fldOk m) (hn : opsOk n l.length) (hf : fldOk n) : OkL (l ++ [n]) := by
  have hlen : (l ++ [n]).length = l.length + 1 := by simp
  have key : ∀ i, i < (l ++ [n]).length → opsOk ((l ++ [n]).getD i nd0) i ∧ fldOk ((l ++ [n]).getD i nd0) := by
    intro i hi
    by_cases e : i < l.length
    · rw [List.getD_eq_getElem?_getD, List.getElem?_append_left e, ← List.getD_eq_getElem?_getD]
      exact ⟨h1 i e, h2 _ (getD_mem e)⟩
    · have e2 : i = l.length := by omega
      subst e2
      rw [getD_some (n := n) (by simp)]
      exact ⟨hn, hf⟩
  exact ⟨by simp, fun i hi => (key i hi).1, fun i hi => NdR_of ((nodeErr_iff _ i).2 (key i hi))⟩
end Go.Proofs.YtkkkomkljpolbaaDoor
