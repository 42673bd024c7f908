/- Layer 6: texts joined: Mg Mh Mi Mj. -/
import Derived.Test.YtopkmcoblndokaaDoorNVj
/- Layer 5: renumber by a shift. -/
namespace Go.Proofs.Ws
open Go
end Go.Proofs.Ws
namespace Go.Proofs.YtopkmcoblndokaaDoor
open Go.RowKit Go.Proofs.Ws Go.Maps
set_option maxRecDepth 100000
/-- the boxes of renumber, where the closure only reads -/
structure SQ (w W : World) (g0 g1 g2 : Nat) (x : Nd) (a1 a2 a3 a4 : Int) : Prop where
  bx : Box W g0 x
  rs : W.heap[g1]? = some (.cells #[.int .i64 0, .int .i64 0, .int .i64 0, .int .i64 0, .int .i64 0, .int .i64 0] 55 (0, 0))
  sh : W.heap[g2]? = some (.cells #[.int .i64 a1, .int .i64 a2, .int .i64 a3, .int .i64 a4] 95 (0, 0))
  be : Below w.heap.size w W
  l0 : w.heap.size ≤ g0
  n01 : g0 ≠ g1
  n02 : g0 ≠ g2
theorem SQ.set {w W : World} {g0 g1 g2 j : Nat} {x x' : Nd} {a1 a2 a3 a4 : Int} {v : Value} (h : SQ w W g0 g1 g2 x a1 a2 a3 a4) (hx : Box (W.setCell ⟨g0, j, none⟩ v) g0 x') : SQ w (W.setCell ⟨g0, j, none⟩ v) g0 g1 g2 x' a1 a2 a3 a4 :=
  ⟨hx, (Below.heap_setCell _ _ _ _ h.n01.symm).trans h.rs, (Below.heap_setCell _ _ _ _ h.n02.symm).trans h.sh, h.be.setCell h.l0 _, h.l0, h.n01, h.n02⟩
theorem SQ.cells {w W : World} {g0 g1 g2 : Nat} {x : Nd} {a1 a2 a3 a4 : Int} (h : SQ w W g0 g1 g2 x a1 a2 a3 a4) : W.cell? ⟨g2, 3, none⟩ = some (.int .i64 a4) := Lib.cell_of_heap h.sh 3
theorem SQ.zero {w W : World} {g0 g1 g2 : Nat} {x : Nd} {a1 a2 a3 a4 : Int} (h : SQ w W g0 g1 g2 x a1 a2 a3 a4) : Box W g1 ⟨0, 0, 0, 0, 0, 0⟩ := by
  have := Lib.cell_of_heap h.rs
  exact ⟨this 0, this 1, this 2, this 3, this 4, this 5, fun j => Lib.frozen_of_heap h.rs j⟩
theorem SQ.done {w W : World} {g0 g1 g2 : Nat} {x : Nd} {a1 a2 a3 a4 : Int} (h : SQ w W g0 g1 g2 x a1 a2 a3 a4) (hl : w.heap.size ≤ g1) (z : Nd) : Below w.heap.size w (putBox W g1 z) :=
  (((((h.be.setCell hl _).setCell hl _).setCell hl _).setCell hl _).setCell hl _).setCell hl _
theorem SQ.start {w w1 : World} (x : Nd) (a1 a2 a3 a4 : Int)
    (hb : Below ((w.alloc (.cells #[.int .i64 x.op, .int .i64 x.i, .int .i64 x.e, .int .i64 x.g, .int .i64 x.x, .int .i64 x.y] 55)).alloc (.cells #[.int .i64 0, .int .i64 0, .int .i64 0, .int .i64 0, .int .i64 0, .int .i64 0] 55)).heap.size
      ((w.alloc (.cells #[.int .i64 x.op, .int .i64 x.i, .int .i64 x.e, .int .i64 x.g, .int .i64 x.x, .int .i64 x.y] 55)).alloc (.cells #[.int .i64 0, .int .i64 0, .int .i64 0, .int .i64 0, .int .i64 0, .int .i64 0] 55)) w1) :
    SQ w (w1.alloc (.cells #[.int .i64 a1, .int .i64 a2, .int .i64 a3, .int .i64 a4] 95)) w.heap.size (w.heap.size + 1) w1.heap.size x a1 a2 a3 a4 := by
  have hs1 : (w.alloc (.cells #[.int .i64 x.op, .int .i64 x.i, .int .i64 x.e, .int .i64 x.g, .int .i64 x.x, .int .i64 x.y] 55)).heap.size = w.heap.size + 1 := by simp
  have hbx := Box.made w x 55
  have hba : Below w.heap.size w (w.alloc (.cells #[.int .i64 x.op, .int .i64 x.i, .int .i64 x.e, .int .i64 x.g, .int .i64 x.x, .int .i64 x.y] 55)) := (Below.refl _ w).alloc (Nat.le_refl _) _
  generalize w.alloc (.cells #[.int .i64 x.op, .int .i64 x.i, .int .i64 x.e, .int .i64 x.g, .int .i64 x.x, .int .i64 x.y] 55) = wa at *
  have hs2 : (wa.alloc (.cells #[.int .i64 0, .int .i64 0, .int .i64 0, .int .i64 0, .int .i64 0, .int .i64 0] 55)).heap.size = w.heap.size + 2 := by simp; omega
  have hr0 := heap_alloc_new wa (.cells #[.int .i64 0, .int .i64 0, .int .i64 0, .int .i64 0, .int .i64 0, .int .i64 0] 55)
  have hbb : Below wa.heap.size wa (wa.alloc (.cells #[.int .i64 0, .int .i64 0, .int .i64 0, .int .i64 0, .int .i64 0, .int .i64 0] 55)) := (Below.refl _ wa).alloc (Nat.le_refl _) _
  generalize wa.alloc (.cells #[.int .i64 0, .int .i64 0, .int .i64 0, .int .i64 0, .int .i64 0, .int .i64 0] 55) = wb at *
  have hbc : Below w1.heap.size w1 (w1.alloc (.cells #[.int .i64 a1, .int .i64 a2, .int .i64 a3, .int .i64 a4] 95)) := (Below.refl _ w1).alloc (Nat.le_refl _) _
  have hsh := heap_alloc_new w1 (.cells #[.int .i64 a1, .int .i64 a2, .int .i64 a3, .int .i64 a4] 95)
  generalize w1.alloc (.cells #[.int .i64 a1, .int .i64 a2, .int .i64 a3, .int .i64 a4] 95) = w2 at *
  have s1 := hb.size
  have hall : Below w.heap.size w w2 := (hba.trans (hbb.mono (by omega))).trans ((hb.mono (by omega)).trans (hbc.mono (by omega)))
  refine ⟨hbx.keep ?_, ?_, hsh, hall, Nat.le_refl _, by omega, by omega⟩
  · exact (hbc.block _ (by omega)).trans ((hb.block _ (by omega)).trans (hbb.block _ (by omega)))
  · rw [hs1] at hr0
    exact (hbc.block _ (by omega)).trans ((hb.block _ (by omega)).trans hr0)
end Go.Proofs.YtopkmcoblndokaaDoor
/- Layer 5: appendShifted. -/
namespace Go.Proofs.YtopkmcoblndokaaDoor
open Go.RowKit Go.Proofs.Ws Go.Maps
set_option maxRecDepth 100000
end Go.Proofs.YtopkmcoblndokaaDoor
/- Layer 5: build. -/
namespace Go.Proofs.Ws
open Go
end Go.Proofs.Ws
namespace Go.Proofs.YtopkmcoblndokaaDoor
open Go.RowKit Go.Proofs.Ws Go.Maps
set_option maxRecDepth 100000
/-- two numbers in a block -/
def EB (W : World) (g : Nat) (e0 e1 : Int) : Prop := W.cell? ⟨g, 0, none⟩ = some (.int .i64 e0) ∧ W.cell? ⟨g, 1, none⟩ = some (.int .i64 e1) ∧ (∀ j, W.frozen? ⟨g, j, none⟩ = false)
theorem EB.keep {W W' : World} {g : Nat} {e0 e1 : Int} (h : EB W g e0 e1) (hb : W'.heap[g]? = W.heap[g]?) : EB W' g e0 e1 :=
  ⟨(World.cell?_of_block (a := ⟨g, 0, none⟩) hb).trans h.1, (World.cell?_of_block (a := ⟨g, 1, none⟩) hb).trans h.2.1, fun j => (World.frozen?_of_block (a := ⟨g, j, none⟩) hb).trans (h.2.2 j)⟩
theorem EB.set {W : World} {g : Nat} {e0 e1 : Int} (h : EB W g e0 e1) {k : Nat} (hk : k < 2) (v : Int) : EB (W.setCell ⟨g, k, none⟩ (.int .i64 v)) g (if k = 0 then v else e0) (if k = 1 then v else e1) := by
  obtain ⟨h0, h1, hf⟩ := h
  match k, hk with
  | 0, _ => exact ⟨World.cell?_setCell_same W _ _ h0, (World.cell?_setCell_other W ⟨g, 0, none⟩ ⟨g, 1, none⟩ _ (by simp)).trans h1, fun j => by rw [World.frozen?_setCell]; exact hf j⟩
  | 1, _ => exact ⟨(World.cell?_setCell_other W ⟨g, 1, none⟩ ⟨g, 0, none⟩ _ (by simp)).trans h0, World.cell?_setCell_same W _ _ h1, fun j => by rw [World.frozen?_setCell]; exact hf j⟩
theorem EB.made (w : World) (t : TypeId) : EB (w.alloc (.cells #[.int .i64 0, .int .i64 0] t)) w.heap.size 0 0 := by
  have hh := heap_alloc_new w (.cells #[.int .i64 0, .int .i64 0] t)
  have hc := Lib.cell_of_heap hh
  exact ⟨hc 0, hc 1, fun j => Lib.frozen_of_heap hh j⟩
end Go.Proofs.YtopkmcoblndokaaDoor
/- Layer 5: the constructors of the program. -/
namespace Go.Proofs.YtopkmcoblndokaaDoor
open Go.RowKit Go.Proofs.Ws Go.Maps
set_option maxRecDepth 100000
end Go.Proofs.YtopkmcoblndokaaDoor
