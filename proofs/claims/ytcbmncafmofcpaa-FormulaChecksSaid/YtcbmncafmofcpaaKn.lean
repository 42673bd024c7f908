/- Layer 5: the state of the reference's walk, and put at it. -/
import Derived.Test.YtcbmncafmofcpaaKl
namespace Go.Proofs.Ytcbmncafmofcpaa
open Go.RowKit Go.Proofs.Ws
def dnV (d : Option Nat) : Value := .int .i64 (match d with | none => -1 | some k => (k : Int))
/-- the walk at block bw: the list so far (a row of its own), and the numbers of the nodes in block bd -/
structure RW (W : World) (base bw bd n : Nat) (s : Wk) : Prop where
  lw : bw < base
  ld : bd < base
  ne : bw ≠ bd
  lb : base ≤ W.heap.size
  out : ∃ A c, W.cell? ⟨bw, 0, none⟩ = some (.slice A s.out.length c) ∧ W.ownsRow base 44 6 (.slice A s.out.length c) s.out.length (nds s.out)
  fout : W.frozen? ⟨bw, 0, none⟩ = false
  dn : ∃ c, W.cell? ⟨bw, 1, none⟩ = some (.slice (some ⟨bd, 0, none⟩) n c)
  len : s.done.length = n
  cells : ∀ j, j < n → W.cell? ⟨bd, j, none⟩ = some (dnV (s.done.getD j none))
  free : ∀ j, j < n → W.frozen? ⟨bd, j, none⟩ = false
def rowOf (W : World) (bw : Nat) : Option Nat := match W.cell? ⟨bw, 0, none⟩ with | some v => v.ownBlock | none => none
/-- what a step of the walk leaves -/
structure Fr (bw bd : Nat) (w w' : World) : Prop where
  os : w'.os = w.os
  tape : w'.tape = w.tape
  output : w'.output = w.output
  size : w.heap.size ≤ w'.heap.size
  block : ∀ g, g < w.heap.size → g ≠ bw → g ≠ bd → some g ≠ rowOf w bw → w'.heap[g]? = w.heap[g]?
  row : rowOf w' bw = rowOf w bw ∨ ∃ g, rowOf w' bw = some g ∧ w.heap.size ≤ g
theorem rowOf_of {W : World} {bw : Nat} {v : Value} (h : W.cell? ⟨bw, 0, none⟩ = some v) : rowOf W bw = v.ownBlock := by unfold rowOf; rw [h]
theorem rowOf_same {w w' : World} {bw : Nat} (h : w'.cell? ⟨bw, 0, none⟩ = w.cell? ⟨bw, 0, none⟩) : rowOf w' bw = rowOf w bw := by unfold rowOf; rw [h]
theorem Fr.of_below {w w' : World} {bw bd : Nat} (h : Below w.heap.size w w') (hb : bw < w.heap.size) : Fr bw bd w w' :=
  ⟨h.os, h.tape, h.output, h.size, fun g hg _ _ _ => h.block g hg, .inl (rowOf_same (h.cell (p := ⟨bw, 0, none⟩) hb))⟩
theorem Fr.trans {a b c : World} {bw bd : Nat} (h : Fr bw bd a b) (k : Fr bw bd b c) : Fr bw bd a c := by
  refine ⟨k.os.trans h.os, k.tape.trans h.tape, k.output.trans h.output, Nat.le_trans h.size k.size, fun g hg h1 h2 h3 => ?_, ?_⟩
  · refine (k.block g (Nat.lt_of_lt_of_le hg h.size) h1 h2 ?_).trans (h.block g hg h1 h2 h3)
    rcases h.row with e | ⟨g2, e, hl⟩
    · rw [e]; exact h3
    · rw [e]; intro e2; injection e2; omega
  · rcases k.row with e | ⟨g2, e, hl⟩
    · rw [e]; exact h.row
    · exact .inr ⟨g2, e, Nat.le_trans h.size hl⟩
theorem RW.below {W W' : World} {base bw bd n : Nat} {s : Wk} (h : RW W base bw bd n s) (hb : Below W.heap.size W W') : RW W' base bw bd n s := by
  have lw := h.lw
  have ld := h.ld
  have lb := h.lb
  obtain ⟨A, c, h1, h2⟩ := h.out
  obtain ⟨c2, h3⟩ := h.dn
  exact ⟨lw, ld, h.ne, Nat.le_trans lb hb.size,
    ⟨A, c, (hb.cell (p := ⟨bw, 0, none⟩) (by show bw < _; omega)).trans h1, own_keep6 h2 (fun g _ hg => hb.block g hg)⟩,
    (hb.frozen (p := ⟨bw, 0, none⟩) (by show bw < _; omega)).trans h.fout, ⟨c2, (hb.cell (p := ⟨bw, 1, none⟩) (by show bw < _; omega)).trans h3⟩, h.len,
    fun j hj => (hb.cell (p := ⟨bd, j, none⟩) (by show bd < _; omega)).trans (h.cells j hj), fun j hj => (hb.frozen (p := ⟨bd, j, none⟩) (by show bd < _; omega)).trans (h.free j hj)⟩
theorem rPut_any (n : Nd) (base bw bd N : Nat) (s : Wk) (w : World) (hS : RW w base bw bd N s) (hm : s.out.length ≤ 1000) :
    Calls Try.prog 94 #[.pointer (some ⟨bw, 0, none⟩), nv n] w fun e w' => e = .returned (.int .i64 ((putNd s.out n).1 : Nat)) ∧ RW w' base bw bd N ⟨(putNd s.out n).2, s.done⟩ ∧ Fr bw bd w w' := by
  obtain ⟨A, c, h1, h2⟩ := hS.out
  have lw := hS.lw
  have ld := hS.ld
  have lb := hS.lb
  have hR := Reads.of_own h2
  by_cases hin : n ∈ s.out
  · refine (rPut_old n s.out bw _ c A w (by omega) h1 hR hm hin).mono ?_
    rintro e w' ⟨rfl, hb⟩
    have e1 : putNd s.out n = (s.out.idxOf n, s.out) := by unfold putNd; rw [if_pos hin]
    rw [e1]
    exact ⟨rfl, hS.below hb, Fr.of_below hb (by omega)⟩
  · refine (rPut_new n s.out bw _ c base A w lw lb h1 hS.fout hR h2 hm hin).mono ?_
    rintro e w' ⟨rfl, v', w1, ho, hg, hr, rfl⟩
    have e1 : putNd s.out n = (s.out.length, s.out ++ [n]) := by unfold putNd; rw [if_neg hin]
    rw [e1]
    have hrow : ∀ g, g < base → some g ≠ (Value.slice A s.out.length c).ownBlock := fun g hg2 e => by have := (h2.lt g e.symm).1; omega
    have hv : ∃ A' c', v' = .slice A' (s.out ++ [n]).length c' := by
      rcases ho.2 with ⟨rfl, h0⟩ | ⟨g, cap, cur, rfl, _⟩
      · rw [h0]; exact ⟨_, _, rfl⟩
      · exact ⟨_, _, rfl⟩
    obtain ⟨A', c', rfl⟩ := hv
    have hc1 : ∀ g j, g < base → (g, j) ≠ (bw, 0) → (w1.setCell ⟨bw, 0, none⟩ (.slice A' (s.out ++ [n]).length c')).cell? ⟨g, j, none⟩ = w.cell? ⟨g, j, none⟩ := fun g j hg2 hne => by
      rw [World.cell?_setCell_other w1 ⟨bw, 0, none⟩ ⟨g, j, none⟩ _ (by intro e; apply hne; injection e with e1 e2; rw [e1, e2])]
      exact hg.cell_far ⟨g, j, none⟩ (by show g < _; omega) (hrow g hg2)
    have hf1 : ∀ g j, g < base → (w1.setCell ⟨bw, 0, none⟩ (.slice A' (s.out ++ [n]).length c')).frozen? ⟨g, j, none⟩ = w.frozen? ⟨g, j, none⟩ := fun g j hg2 => by
      rw [World.frozen?_setCell]
      exact hg.frozen_far ⟨g, j, none⟩ (by show g < _; omega) (hrow g hg2)
    have k0 := (hg.cell_far ⟨bw, 0, none⟩ (by show bw < _; omega) (hrow bw lw)).trans h1
    have k1 : (w1.setCell ⟨bw, 0, none⟩ (.slice A' (s.out ++ [n]).length c')).cell? ⟨bw, 0, none⟩ = some (.slice A' (s.out ++ [n]).length c') := World.cell?_setCell_same w1 _ _ k0
    have hne := hS.ne
    obtain ⟨c2, h3⟩ := hS.dn
    have hsz : w.heap.size ≤ (w1.setCell ⟨bw, 0, none⟩ (.slice A' (s.out ++ [n]).length c')).heap.size := by have := hg.size; simpa using this
    refine ⟨rfl, ⟨lw, ld, hne, Nat.le_trans lb hsz, ⟨A', c', k1, ownsRow_setCell_below ho lw _⟩, (hf1 bw 0 lw).trans hS.fout, ⟨c2, (hc1 bw 1 lw (by simp)).trans h3⟩, hS.len,
      fun j hj => (hc1 bd j ld (by intro e; injection e with e1 e2; exact hne e1.symm)).trans (hS.cells j hj), fun j hj => (hf1 bd j ld).trans (hS.free j hj)⟩, ?_⟩
    refine ⟨hg.os, hg.tape, hg.output, hsz, fun g hg1 h5 _ h6 => ?_, ?_⟩
    · rw [rowOf_of h1] at h6
      exact (Below.heap_setCell w1 _ _ g h5).trans (hg.block g hg1 h6)
    · rw [rowOf_of h1, rowOf_of k1]
      exact hr
end Go.Proofs.Ytcbmncafmofcpaa
