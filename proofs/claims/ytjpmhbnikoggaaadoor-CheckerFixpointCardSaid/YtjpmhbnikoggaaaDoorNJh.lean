/- Layer 6: texts joined: Kq Kw. -/
import Derived.Test.YtjpmhbnikoggaaaDoorNJf
/- Layer 5: the reference's finish. -/
namespace Go.Proofs.YtjpmhbnikoggaaaDoor
open Go.RowKit Go.Proofs.Ws
end Go.Proofs.YtjpmhbnikoggaaaDoor
/- Layer 5: what a checked list is, and the reference's Sub. -/
namespace Go.Proofs.Ws
open Go
theorem errFrom_all (l : List Nd) : ∀ (m k : Nat), l.length - k ≤ m → errFrom k (l.drop k) = 0 → ∀ j, k ≤ j → j < l.length → nodeErr (l.getD j nd0) (j : Int) = 0 := by
  intro m
  induction m with
  | zero => intro k h _ j h1 h2; omega
  | succ m ih =>
    intro k h he j h1 h2
    have hk : k < l.length := by omega
    rw [List.drop_eq_getElem_cons hk] at he
    have he2 : (if nodeErr l[k] (k : Int) ≠ 0 then nodeErr l[k] (k : Int) else errFrom (k + 1) (l.drop (k + 1))) = 0 := he
    have hg : l.getD k nd0 = l[k] := by simp [hk]
    by_cases hz : nodeErr l[k] (k : Int) = 0
    · rw [if_neg (by simpa using hz)] at he2
      by_cases e : j = k
      · subst e; rw [hg]; exact hz
      · exact ih (k + 1) (by omega) he2 j (by omega) h2
    · rw [if_pos hz] at he2; exact absurd he2 hz
theorem nodeErr_ok {n : Nd} {k : Int} (h : nodeErr n k = 0) : known n.op = true ∧ formOk n k = true ∧ rangeOk n = true := by
  unfold nodeErr at h
  cases h1 : known n.op
  · rw [h1] at h; simp at h
  · cases h2 : formOk n k
    · rw [h1, h2] at h; simp at h
    · cases h3 : rangeOk n
      · rw [h1, h2, h3] at h; simp at h
      · exact ⟨rfl, rfl, rfl⟩
theorem formOk_ops {n : Nd} {k : Nat} (h : formOk n (k : Int) = true) : opsOk n k := by
  unfold formOk at h
  simp only [Bool.and_eq_true] at h
  obtain ⟨⟨⟨⟨hx, hy⟩, _⟩, _⟩, _⟩ := h
  refine ⟨?_, ?_⟩
  · by_cases hu : usesX n.op = true
    · rw [if_pos hu] at hx ⊢
      simp only [Bool.and_eq_true, decide_eq_true_eq] at hx
      exact hx
    · rw [if_neg hu] at hx ⊢
      exact of_decide_eq_true hx
  · by_cases hu : usesY n.op = true
    · rw [if_pos hu] at hy ⊢
      simp only [Bool.and_eq_true, decide_eq_true_eq] at hy
      exact hy
    · rw [if_neg hu] at hy ⊢
      exact of_decide_eq_true hy
theorem fErr_ok {l : List Nd} (h : fErr l = 0) : l ≠ [] ∧ l.length ≤ 200 ∧ ∀ j, j < l.length → nodeErr (l.getD j nd0) (j : Int) = 0 := by
  unfold fErr at h
  split at h
  · cases h
  · split at h
    · cases h
    · rename_i h1 h2
      refine ⟨by intro e; rw [e] at h1; simp at h1, by omega, fun j hj => errFrom_all l l.length 0 (by omega) h j (Nat.zero_le _) hj⟩
theorem fErr_ops {l : List Nd} (h : fErr l = 0) : opsL l := fun i hi => formOk_ops (nodeErr_ok ((fErr_ok h).2.2 i hi)).2.1
end Go.Proofs.Ws
namespace Go.Proofs.YtjpmhbnikoggaaaDoor
open Go.RowKit Go.Proofs.Ws
theorem Tryd.infoIR : (Tryd.prog.info? 3).map (fun i => (i.zero, i.size, i.bytes)) = some (some (.int .i64 0), 1, 8) := by kernel_rfl
/-- the walk of the reference, while its numbers are laid -/
structure LD (w W : World) (bw k : Nat) : Prop where
  o0 : W.cell? ⟨bw, 0, none⟩ = some (.slice none 0 0)
  f0 : W.frozen? ⟨bw, 0, none⟩ = false
  f1 : W.frozen? ⟨bw, 1, none⟩ = false
  row : ∃ A c, W.cell? ⟨bw, 1, none⟩ = some (.slice A k c) ∧ W.ownsRow (bw + 1) 3 1 (.slice A k c) k (List.replicate k (.int .i64 (-1)))
  lt : bw < W.heap.size
  l0 : w.heap.size ≤ bw
  be : Below w.heap.size w W
theorem LD.start (w w1 : World) (t : TypeId) (hb : Below w.heap.size w w1) : LD w (w1.alloc (.cells #[.slice none 0 0, .slice none 0 0] t)) w1.heap.size 0 := by
  have hh := heap_alloc_new w1 (.cells #[.slice none 0 0, .slice none 0 0] t)
  have hc := Lib.cell_of_heap hh
  exact ⟨hc 0, Lib.frozen_of_heap hh 0, Lib.frozen_of_heap hh 1, ⟨none, 0, hc 1, World.ownsRow_nil _ _ _ _⟩, by simp, hb.size, hb.alloc hb.size _⟩
theorem LD.step {w W w3 : World} {bw k : Nat} {A A' : Option Addr} {c c' : Nat} {o : Obj} (h : LD w W bw k) (hc : W.cell? ⟨bw, 1, none⟩ = some (.slice A k c)) (hlt : ∀ g, (Value.slice A k c).ownBlock = some g → bw + 1 ≤ g)
    (ho : w3.ownsRow (bw + 1) 3 1 (.slice A' (k + 1) c') (k + 1) (List.replicate k (.int .i64 (-1)) ++ [.int .i64 (-1)])) (hg : (W.alloc o).grownBy w3 (Value.slice A k c).ownBlock) :
    LD w (w3.setCell ⟨bw, 1, none⟩ (.slice A' (k + 1) c')) bw (k + 1) := by
  have hlt1 := h.lt
  have l0 := h.l0
  have hsz : (W.alloc o).heap.size = W.heap.size + 1 := by simp
  have hbw : w3.heap[bw]? = W.heap[bw]? := (hg.block bw (by omega) (fun e => by have := hlt bw e.symm; omega)).trans (Below.heap_alloc W o bw hlt1)
  have e := fun j => World.cell?_of_block (a := ⟨bw, j, none⟩) hbw
  have ef := fun j => World.frozen?_of_block (a := ⟨bw, j, none⟩) hbw
  have hrep : List.replicate (k + 1) (Value.int .i64 (-1)) = List.replicate k (.int .i64 (-1)) ++ [.int .i64 (-1)] := List.replicate_succ'
  refine ⟨?_, ?_, ?_, ⟨A', c', World.cell?_setCell_same w3 _ _ ((e 1).trans hc), ?_⟩, ?_, l0, ?_⟩
  · rw [World.cell?_setCell_other w3 ⟨bw, 1, none⟩ ⟨bw, 0, none⟩ _ (by simp)]; exact (e 0).trans h.o0
  · rw [World.frozen?_setCell]; exact (ef 0).trans h.f0
  · rw [World.frozen?_setCell]; exact (ef 1).trans h.f1
  · rw [hrep]; exact ownsRow_setCell_below ho (by show bw < bw + 1; omega) _
  · have := hg.size; simp; omega
  · have hb : Below w.heap.size w w3 := (h.be.alloc h.be.size o).grown hg (by have := h.be.size; omega) (fun g hg2 => by have := hlt g hg2; omega)
    exact hb.setCell (by show w.heap.size ≤ bw; exact l0) _
end Go.Proofs.YtjpmhbnikoggaaaDoor
