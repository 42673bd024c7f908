/- Contracts of layer 2: the steps of the closures that write one row: reflexive, transitive. -/
import Derived.Test.YtogjbghieoifjaaDoorRj
import Derived.Test.YtogjbghieoifjaaDoorBc
namespace Go.Proofs.YtogjbghieoifjaaDoor
open Go.RowKit Go.Proofs.Ws
/-- whatever lay below B, block g apart, lies as it lay -/
structure BelowBut (B g : Nat) (w w' : World) : Prop where
  os : w'.os = w.os
  tape : w'.tape = w.tape
  output : w'.output = w.output
  size : w.heap.size ≤ w'.heap.size
  block : ∀ k, k < B → k ≠ g → w'.heap[k]? = w.heap[k]?
theorem BelowBut.refl (B g : Nat) (w : World) : BelowBut B g w w := ⟨rfl, rfl, rfl, Nat.le_refl _, fun _ _ _ => rfl⟩
theorem BelowBut.of {B : Nat} {w w' : World} (h : Below B w w') (g : Nat) : BelowBut B g w w' := ⟨h.os, h.tape, h.output, h.size, fun k hk _ => h.block k hk⟩
theorem BelowBut.trans {B g : Nat} {a b c : World} (h : BelowBut B g a b) (k : BelowBut B g b c) : BelowBut B g a c :=
  ⟨k.os.trans h.os, k.tape.trans h.tape, k.output.trans h.output, Nat.le_trans h.size k.size, fun j hj hg => (k.block j hj hg).trans (h.block j hj hg)⟩
theorem BelowBut.setCell {B g : Nat} {a w : World} (h : BelowBut B g a w) (k : Nat) (u : Value) : BelowBut B g a (w.setCell ⟨g, k, none⟩ u) := by
  have e : BelowBut B g w (w.setCell ⟨g, k, none⟩ u) := by
    have b := (Below.refl 0 w).setCell (p := ⟨g, k, none⟩) (Nat.zero_le _) u
    exact ⟨b.os, b.tape, b.output, b.size, fun j _ hg => Below.heap_setCell w ⟨g, k, none⟩ u j hg⟩
  exact h.trans e
theorem BelowBut.drew {B g : Nat} {a w : World} (h : BelowBut B g a w) : BelowBut B g a w.drew := ⟨h.os, h.tape, h.output, h.size, h.block⟩
theorem BelowBut.mono {B B' g : Nat} {w w' : World} (h : BelowBut B g w w') (hB : B' ≤ B) : BelowBut B' g w w' := ⟨h.os, h.tape, h.output, h.size, fun k hk hg => h.block k (Nat.lt_of_lt_of_le hk hB) hg⟩
/-- what lay below g too lies as it lay -/
theorem BelowBut.below {B g : Nat} {w w' : World} (h : BelowBut B g w w') (hg : B ≤ g) : Below B w w' := ⟨h.os, h.tape, h.output, h.size, fun k hk => h.block k hk (by omega)⟩
/-- block g holds these words, and maybe more behind them -/
def HoldsP (w : World) (g : Nat) (l : List Nat) : Prop := ∃ pad : List Value, w.heap[g]? = some (.cells (us l ++ pad).toArray 34 (0, 0))
theorem HoldsU.pad {w : World} {g : Nat} {l : List Nat} (h : HoldsU w g l) : HoldsP w g l := ⟨[], by rw [List.append_nil]; exact h⟩
theorem HoldsP.cell {w : World} {g : Nat} {l : List Nat} (h : HoldsP w g l) (k : Nat) (hk : k < l.length) : w.cell? ⟨g, k, none⟩ = some (.int .u64 ((l.getD k 0 : Nat) : Int)) := by
  obtain ⟨pad, h⟩ := h
  rw [Lib.cell_of_heap h, List.getElem?_toArray, List.getElem?_append_left (by rw [us_length]; exact hk)]
  unfold us
  rw [List.getElem?_map, List.getElem?_eq_getElem hk, List.getD_eq_getElem?_getD, List.getElem?_eq_getElem hk]
  rfl
theorem HoldsP.free {w : World} {g : Nat} {l : List Nat} (h : HoldsP w g l) (k : Nat) : w.frozen? ⟨g, k, none⟩ = false := by
  obtain ⟨pad, h⟩ := h
  exact Lib.frozen_of_heap h k
theorem HoldsP.put {w : World} {g : Nat} {l : List Nat} (h : HoldsP w g l) (k x : Nat) : HoldsP (w.setCell ⟨g, k, none⟩ (.int .u64 (x : Int))) g (l.set k x) := by
  obtain ⟨pad, h⟩ := h
  by_cases hk : k < l.length
  · refine ⟨pad, ?_⟩
    have e : (us (l.set k x) ++ pad).toArray = (us l ++ pad).toArray.setIfInBounds k (.int .u64 (x : Int)) := by
      unfold us
      rw [List.map_set]
      simp [hk]
    rw [e]
    simp [World.setCell, Array.getElem?_modify, h]
  · refine ⟨pad.set (k - l.length) (.int .u64 (x : Int)), ?_⟩
    have e : (us (l.set k x) ++ pad.set (k - l.length) (.int .u64 (x : Int))).toArray = (us l ++ pad).toArray.setIfInBounds k (.int .u64 (x : Int)) := by
      rw [List.set_eq_of_length_le (by omega)]
      simp [List.set_append, us_length, hk]
    rw [e]
    simp [World.setCell, Array.getElem?_modify, h]
theorem HoldsP.lt {w : World} {g : Nat} {l : List Nat} (h : HoldsP w g l) : g < w.heap.size := by
  obtain ⟨pad, h⟩ := h
  exact (Array.getElem?_eq_some_iff.1 h).1
theorem HoldsP.via {w w' : World} {g : Nat} {l : List Nat} (h : HoldsP w g l) (e : ∀ (g : Nat) (o : Obj), w.heap[g]? = some o → o.isCells = true → w'.heap[g]? = some o) : HoldsP w' g l := by
  obtain ⟨pad, h⟩ := h
  exact ⟨pad, e _ _ h rfl⟩
theorem HoldsP.below {w w' : World} {B g : Nat} {l : List Nat} (h : HoldsP w g l) (hb : Below B w w') (hg : g < B) : HoldsP w' g l := by
  obtain ⟨pad, h⟩ := h
  exact ⟨pad, (hb.block g hg).trans h⟩
theorem HoldsP.kept {W W' : World} {row : Option Nat} {g : Nat} {l : List Nat} (h : HoldsP W g l) (hg : W.grownBy W' row) (hr : ∀ r, row = some r → ∃ o : Obj, W.heap[r]? = some o ∧ o.isCells = false) : HoldsP W' g l := by
  have hlt := h.lt
  obtain ⟨pad, h⟩ := h
  exact ⟨pad, (hg.block g hlt (fun e => by
    obtain ⟨o, ho, hc⟩ := hr _ e.symm
    rw [h] at ho
    cases ho
    cases hc)).trans h⟩
theorem HoldsP.reads {w : World} {g : Nat} {l : List Nat} (h : HoldsP w g l) : Reads w w.heap.size 1 (some ⟨g, 0, none⟩) l.length (us l) := by
  refine ⟨by rw [us_length]; omega, fun _ => ⟨_, rfl, h.lt, fun j u hu => ?_⟩⟩
  rw [addr0]
  unfold us at hu
  rw [List.getElem?_map] at hu
  obtain ⟨k, hk, rfl⟩ := Option.map_eq_some_iff.1 hu
  have hj : j < l.length := by
    by_cases h' : j < l.length
    · exact h'
    · rw [List.getElem?_eq_none (by omega)] at hk; cases hk
  rw [h.cell j hj, List.getD_eq_getElem?_getD, hk]; rfl
theorem stepReflexive_any (l : List Nat) (g m c k : Nat) (w : World) (hH : HoldsP w g l) (hw : Words l) (hl : l.length = m) (hk : k < m) (hm : m ≤ 64) :
    Calls Tryd.prog 49 #[.slice (some ⟨g, 0, none⟩) m c, .int .i64 k] w fun e w' => e = .returned (.tuple #[]) ∧ HoldsP w' g (l.set k (l.getD k 0 ||| p2 k)) ∧ BelowBut w.heap.size g w w' := by
  have hcz := hH.cell k (by omega)
  have hf := hH.free k
  have hor := (or_pow (l.getD k 0) k (words_getD hw k) (by omega)).1
  have HP := Lib.hid (hH.put k (l.getD k 0 ||| p2 k))
  have HO := Lib.hid (fun W => relOnly_any k W (by omega))
  generalize l.getD k 0 = x at *
  clear hH hw
  go_enter Tryd.func49, Tryd.ntmps49
  go_wp2
  go_region_with (go_at_call 62; refine (HO.out _).mono ?_; rintro e w' ⟨rfl, rfl⟩)
  all_goals go_wp2
  all_goals go_end0
  all_goals first
    | exact ⟨rfl, HP.out, ((BelowBut.refl w.heap.size g w).setCell k _).drew⟩
    | exact ⟨rfl, HP.out, (BelowBut.refl w.heap.size g w).setCell k _⟩
theorem stepTransitive_any (l : List Nat) (g m c k : Nat) (w : World) (hH : HoldsP w g l) (hw : Words l) (hl : l.length = m) (hk : k < m) (hm : m ≤ 64) (hT : Tab w) :
    Calls Tryd.prog 51 #[.slice (some ⟨g, 0, none⟩) m c, .int .i64 k] w fun e w' => e = .returned (.tuple #[]) ∧ HoldsP w' g (l.set k (l.getD k 0 ||| imgV l (l.getD k 0))) ∧ BelowBut w.heap.size g w w' := by
  have hcz := hH.cell k (by omega)
  have hf := hH.free k
  have hxw := words_getD hw k
  have hgl := hH.lt
  have hor : bits .or .u64 ((l.getD k 0 : Nat) : Int) (imgV l (l.getD k 0) : Int) = ((l.getD k 0 ||| imgV l (l.getD k 0) : Nat) : Int) := u64_or_nat _ _ hxw (imgL_lt hw _)
  have hr := hH.reads
  rw [hl] at hr
  have HI := Lib.hid (image_any l (some ⟨g, 0, none⟩) m c (l.getD k 0) w hxw hr hw hm hT)
  have HID := Lib.hid (image_any l (some ⟨g, 0, none⟩) m c (l.getD k 0) w.drew hxw hr hw hm hT)
  have HH := Lib.hid hH
  generalize l.getD k 0 = x at *
  generalize imgV l x = y at *
  clear hH hw hT hr hxw
  go_enter Tryd.func51, Tryd.ntmps51
  go_wp2
  go_region_with (go_at_call 56; first | (refine (HI.out).mono ?_; rintro e w3 ⟨rfl, hb3⟩; have hcz3 := (hb3.cell (p := ⟨g, k, none⟩) hgl).trans hcz; have hf3 := (hb3.frozen (p := ⟨g, k, none⟩) hgl).trans hf) | (refine (HID.out).mono ?_; rintro e w3 ⟨rfl, hb3'⟩; have hb3 : Below w.heap.size w w3 := ((Below.refl w.heap.size w).drew).trans hb3'; clear hb3'; have hcz3 := (hb3.cell (p := ⟨g, k, none⟩) hgl).trans hcz; have hf3 := (hb3.frozen (p := ⟨g, k, none⟩) hgl).trans hf))
  all_goals go_wp2
  all_goals go_end0
  all_goals first
    | exact ⟨rfl, (HH.out.below hb3 hgl).put k _, (BelowBut.of hb3 g).trans ((BelowBut.refl _ g _).setCell k _)⟩
    | exact ⟨rfl, (HH.out.below hb3 hgl).put k _, ((BelowBut.of hb3 g).trans ((BelowBut.refl _ g _).setCell k _)).drew⟩
end Go.Proofs.YtogjbghieoifjaaDoor
