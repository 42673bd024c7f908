/- Lists of words in cells, and memory of the call's own (no function of the program is named). -/
import Derived.Test.YtofclgapgjcflaaDoorAa
import Derived.Lib.Builder
namespace Go.Proofs.YtofclgapgjcflaaDoor
open Go.RowKit Go.Proofs.Ws
theorem quiet_same {P : Program} {f : FuncId} {args : Array Value} {X : Nat → World} {n : Nat} {v : Value} (h : Calls P f args (X n) fun e w' => e = .returned v ∧ X n = w') :
    Calls P f args (X n) fun e w'' => e = .returned v ∧ ∃ m, w'' = X m := h.mono fun _ _ ⟨he, hm⟩ => ⟨he, n, hm.symm⟩
theorem quiet_drew {P : Program} {f : FuncId} {args : Array Value} {w : World} {q n : Nat} {v : Value} (h : Calls P f args ((w.drewN q).drewN n) fun e w' => e = .returned v ∧ ∃ k, w' = ((w.drewN q).drewN n).drewN k) :
    Calls P f args ((w.drewN q).drewN n) fun e w'' => e = .returned v ∧ ∃ m, w'' = (w.drewN q).drewN m := h.mono fun _ _ ⟨he, k, hm⟩ => ⟨he, n + k, by rw [hm]; simp [Nat.add_assoc]⟩
/-- a list of words in cells -/
def us (l : List Nat) : List Value := l.map (fun k : Nat => Value.int .u64 (k : Int))
theorem us_length (l : List Nat) : (us l).length = l.length := by simp [us]
/-- each is a word -/
def Words (l : List Nat) : Prop := ∀ x ∈ l, x < 18446744073709551616
theorem Reads.word_at {w : World} {B n : Nat} {A : Option Addr} {l : List Nat} (h : Reads w B 1 A n (us l)) {k : Nat} (hk : k < n) :
    ∃ ad x, A = some ad ∧ ad.block < B ∧ k < l.length ∧ l.getD k 0 = x ∧ x ∈ l ∧ l.drop k = x :: l.drop (k + 1) ∧ w.cell? (ad.add k) = some (.int .u64 (x : Int)) := by
  obtain ⟨ad, u, hA, hb, hu, hc⟩ := h.at_ hk
  unfold us at hu
  rw [List.getElem?_map] at hu
  have hl : k < l.length := by have := h.1; rw [us_length] at this; omega
  rw [List.getElem?_eq_getElem hl] at hu
  simp at hu
  subst hu
  exact ⟨ad, l[k], hA, hb, hl, by rw [List.getD_eq_getElem?_getD, List.getElem?_eq_getElem hl]; rfl, List.getElem_mem hl, List.drop_eq_getElem_cons hl, hc⟩
theorem Reads.word_len {w : World} {B n : Nat} {A : Option Addr} {l : List Nat} (h : Reads w B 1 A n (us l)) : l.length = n := by have := h.1; rw [us_length] at this; omega
theorem words_getD {R : List Nat} (h : Words R) (k : Nat) : R.getD k 0 < 18446744073709551616 := by
  rw [List.getD_eq_getElem?_getD]
  by_cases hk : k < R.length
  · rw [List.getElem?_eq_getElem hk]; exact h _ (List.getElem_mem hk)
  · rw [List.getElem?_eq_none (by omega)]; decide
theorem allV_nat (n : Nat) (h : n ≤ 64) : allV (n : Int) = 2 ^ n - 1 := by unfold allV; rw [if_pos (by omega)]; rfl
/-- block g holds just these words -/
def HoldsU (w : World) (g : Nat) (l : List Nat) : Prop := w.heap[g]? = some (.cells (us l).toArray 31 (0, 0))
theorem Tryd.infoU : (Tryd.prog.info? 31).map (fun i => (i.zero, i.size, i.bytes)) = some (some (.int .u64 0), 1, 8) := by kernel_rfl
theorem made_us (n : Nat) : madeCells (Value.int IntKind.u64 0).cells n = (us (List.replicate n 0)).toArray := by
  apply Array.ext
  · simp [madeCells, us]
  · intro i h1 h2
    simp [madeCells, us, Value.cells, Nat.mod_one]
theorem makeU (w : World) (n : Nat) (hn : n ≤ 1000000) : (Instr.makeSlice 22 (.int .i64 (n : Int)) (.int .i64 (n : Int))).run Tryd.prog w = .ok (.slice (some ⟨w.heap.size, 0, none⟩) n n) (w.alloc (.cells (us (List.replicate n 0)).toArray 31)) := by
  obtain ⟨i0, hi, hz0, hz1, hz2⟩ := info_parts Tryd.infoU
  have h := run_make (P := Tryd.prog) w 22 31 i0 (.int .u64 0) Tryd.underlying22 hi hz0 .i64 .i64 n n (by omega) (Int.le_refl _) (by rw [hz2]; omega) (by omega)
  rw [h, hz1]
  simp only [Int.toNat_natCast, Nat.mul_one]
  rw [made_us]
theorem HoldsU.cell {w : World} {g : Nat} {l : List Nat} (h : HoldsU w g l) (k : Nat) (hk : k < l.length) : w.cell? ⟨g, k, none⟩ = some (.int .u64 ((l.getD k 0 : Nat) : Int)) := by
  rw [Lib.cell_of_heap h, List.getElem?_toArray]
  unfold us
  rw [List.getElem?_map, List.getElem?_eq_getElem hk, List.getD_eq_getElem?_getD, List.getElem?_eq_getElem hk]
  rfl
theorem HoldsU.free {w : World} {g : Nat} {l : List Nat} (h : HoldsU w g l) (k : Nat) : w.frozen? ⟨g, k, none⟩ = false := Lib.frozen_of_heap h k
theorem HoldsU.put {w : World} {g : Nat} {l : List Nat} (h : HoldsU w g l) (k x : Nat) : HoldsU (w.setCell ⟨g, k, none⟩ (.int .u64 (x : Int))) g (l.set k x) := by
  unfold HoldsU at h ⊢
  have e : (us (l.set k x)).toArray = (us l).toArray.setIfInBounds k (.int .u64 (x : Int)) := by
    unfold us
    rw [List.map_set]
    simp
  rw [e]
  simp [World.setCell, Array.getElem?_modify, h]
theorem HoldsU.far {w : World} {g g' : Nat} {l : List Nat} (h : HoldsU w g l) (hne : g ≠ g') (k : Nat) (u : Value) : HoldsU (w.setCell ⟨g', k, none⟩ u) g l :=
  (Below.heap_setCell w ⟨g', k, none⟩ u g hne).trans h
theorem HoldsU.made (w : World) (l : List Nat) : HoldsU (w.alloc (.cells (us l).toArray 31)) w.heap.size l := heap_alloc_new w _
theorem HoldsU.lt {w : World} {g : Nat} {l : List Nat} (h : HoldsU w g l) : g < w.heap.size := (Array.getElem?_eq_some_iff.1 h).1
theorem HoldsU.alloc {w : World} {g : Nat} {l : List Nat} (h : HoldsU w g l) (o : Obj) : HoldsU (w.alloc o) g l := (Below.heap_alloc w o g h.lt).trans h
theorem addr0 (g j : Nat) : (⟨g, 0, none⟩ : Addr).add j = ⟨g, j, none⟩ := by
  unfold Addr.add
  split
  · subst_vars; rfl
  · simp
theorem HoldsU.reads {w : World} {g : Nat} {l : List Nat} (h : HoldsU w g l) : Reads w w.heap.size 1 (some ⟨g, 0, none⟩) l.length (us l) := by
  refine ⟨by rw [us_length]; omega, fun _ => ⟨_, rfl, h.lt, fun j u hu => ?_⟩⟩
  rw [addr0]
  unfold us at hu
  rw [List.getElem?_map] at hu
  obtain ⟨k, hk, rfl⟩ := Option.map_eq_some_iff.1 hu
  have hj : j < l.length := by
    by_cases h' : j < l.length
    · exact h'
    · rw [List.getElem?_eq_none (by omega)] at hk; cases hk
  rw [h.cell j hj, List.getD_eq_getElem?_getD, hk]; rfl
theorem HoldsU.below {w w' : World} {B g : Nat} {l : List Nat} (h : HoldsU w g l) (hb : Below B w w') (hg : g < B) : HoldsU w' g l := (hb.block g hg).trans h
theorem Reads.word_k {w : World} {B n : Nat} {A : Option Addr} {l : List Nat} (h : Reads w B 1 A n (us l)) {k : Nat} (hk : k < n) :
    ∃ ad, A = some ad ∧ ad.block < B ∧ w.cell? (ad.add k) = some (.int .u64 ((l.getD k 0 : Nat) : Int)) := by
  obtain ⟨ad, x, hA, hb, _, hx, _, _, hc⟩ := h.word_at hk
  exact ⟨ad, hA, hb, by rw [hx]; exact hc⟩
/-- whatever lay below B, block g apart, lies as it lay -/
structure BelowBut (B g : Nat) (w w' : World) : Prop where
  os : w'.os = w.os
  tape : w'.tape = w.tape
  output : w'.output = w.output
  size : w.heap.size ≤ w'.heap.size
  block : ∀ k, k < B → k ≠ g → w'.heap[k]? = w.heap[k]?
theorem BelowBut.refl (B g : Nat) (w : World) : BelowBut B g w w := ⟨rfl, rfl, rfl, Nat.le_refl _, fun _ _ _ => rfl⟩
theorem BelowBut.of {B : Nat} {w w' : World} (h : Below B w w') (g : Nat) : BelowBut B g w w' := ⟨h.os, h.tape, h.output, h.size, fun k hk _ => h.block k hk⟩
theorem BelowBut.trans {B g : Nat} {a b c : World} (h : BelowBut B g a b) (k : BelowBut B g b c) : BelowBut B g a c :=
  ⟨k.os.trans h.os, k.tape.trans h.tape, k.output.trans h.output, Nat.le_trans h.size k.size, fun j hj hg => (k.block j hj hg).trans (h.block j hj hg)⟩
theorem BelowBut.setCell {B g : Nat} {a w : World} (h : BelowBut B g a w) (k : Nat) (u : Value) : BelowBut B g a (w.setCell ⟨g, k, none⟩ u) := by
  have e : BelowBut B g w (w.setCell ⟨g, k, none⟩ u) := by
    have b := (Below.refl 0 w).setCell (p := ⟨g, k, none⟩) (Nat.zero_le _) u
    exact ⟨b.os, b.tape, b.output, b.size, fun j _ hg => Below.heap_setCell w ⟨g, k, none⟩ u j hg⟩
  exact h.trans e
theorem BelowBut.drew {B g : Nat} {a w : World} (h : BelowBut B g a w) : BelowBut B g a w.drew := ⟨h.os, h.tape, h.output, h.size, h.block⟩
theorem BelowBut.mono {B B' g : Nat} {w w' : World} (h : BelowBut B g w w') (hB : B' ≤ B) : BelowBut B' g w w' := ⟨h.os, h.tape, h.output, h.size, fun k hk hg => h.block k (Nat.lt_of_lt_of_le hk hB) hg⟩
/-- what lay below g too lies as it lay -/
theorem BelowBut.below {B g : Nat} {w w' : World} (h : BelowBut B g w w') (hg : B ≤ g) : Below B w w' := ⟨h.os, h.tape, h.output, h.size, fun k hk => h.block k hk (by omega)⟩
/-- block g holds these words, and maybe more behind them -/
def HoldsP (w : World) (g : Nat) (l : List Nat) : Prop := ∃ pad : List Value, w.heap[g]? = some (.cells (us l ++ pad).toArray 31 (0, 0))
theorem HoldsU.pad {w : World} {g : Nat} {l : List Nat} (h : HoldsU w g l) : HoldsP w g l := ⟨[], by rw [List.append_nil]; exact h⟩
theorem HoldsP.cell {w : World} {g : Nat} {l : List Nat} (h : HoldsP w g l) (k : Nat) (hk : k < l.length) : w.cell? ⟨g, k, none⟩ = some (.int .u64 ((l.getD k 0 : Nat) : Int)) := by
  obtain ⟨pad, h⟩ := h
  rw [Lib.cell_of_heap h, List.getElem?_toArray, List.getElem?_append_left (by rw [us_length]; exact hk)]
  unfold us
  rw [List.getElem?_map, List.getElem?_eq_getElem hk, List.getD_eq_getElem?_getD, List.getElem?_eq_getElem hk]
  rfl
theorem HoldsP.free {w : World} {g : Nat} {l : List Nat} (h : HoldsP w g l) (k : Nat) : w.frozen? ⟨g, k, none⟩ = false := by
  obtain ⟨pad, h⟩ := h
  exact Lib.frozen_of_heap h k
theorem HoldsP.put {w : World} {g : Nat} {l : List Nat} (h : HoldsP w g l) (k x : Nat) : HoldsP (w.setCell ⟨g, k, none⟩ (.int .u64 (x : Int))) g (l.set k x) := by
  obtain ⟨pad, h⟩ := h
  by_cases hk : k < l.length
  · refine ⟨pad, ?_⟩
    have e : (us (l.set k x) ++ pad).toArray = (us l ++ pad).toArray.setIfInBounds k (.int .u64 (x : Int)) := by
      unfold us
      rw [List.map_set]
      simp [hk]
    rw [e]
    simp [World.setCell, Array.getElem?_modify, h]
  · refine ⟨pad.set (k - l.length) (.int .u64 (x : Int)), ?_⟩
    have e : (us (l.set k x) ++ pad.set (k - l.length) (.int .u64 (x : Int))).toArray = (us l ++ pad).toArray.setIfInBounds k (.int .u64 (x : Int)) := by
      rw [List.set_eq_of_length_le (by omega)]
      simp [List.set_append, us_length, hk]
    rw [e]
    simp [World.setCell, Array.getElem?_modify, h]
theorem HoldsP.lt {w : World} {g : Nat} {l : List Nat} (h : HoldsP w g l) : g < w.heap.size := by
  obtain ⟨pad, h⟩ := h
  exact (Array.getElem?_eq_some_iff.1 h).1
theorem HoldsP.below {w w' : World} {B g : Nat} {l : List Nat} (h : HoldsP w g l) (hb : Below B w w') (hg : g < B) : HoldsP w' g l := by
  obtain ⟨pad, h⟩ := h
  exact ⟨pad, (hb.block g hg).trans h⟩
theorem HoldsP.reads {w : World} {g : Nat} {l : List Nat} (h : HoldsP w g l) : Reads w w.heap.size 1 (some ⟨g, 0, none⟩) l.length (us l) := by
  refine ⟨by rw [us_length]; omega, fun _ => ⟨_, rfl, h.lt, fun j u hu => ?_⟩⟩
  rw [addr0]
  unfold us at hu
  rw [List.getElem?_map] at hu
  obtain ⟨k, hk, rfl⟩ := Option.map_eq_some_iff.1 hu
  have hj : j < l.length := by
    by_cases h' : j < l.length
    · exact h'
    · rw [List.getElem?_eq_none (by omega)] at hk; cases hk
  rw [h.cell j hj, List.getD_eq_getElem?_getD, hk]; rfl
end Go.Proofs.YtofclgapgjcflaaDoor
