/- Layer 15: models in memory (what its program needs of layer 13's texts). -/
import Derived.Test.YtjpmhbnikoggaaaDoorNIh
import Derived.Test.YtjpmhbnikoggaaaDoorNIi
import Derived.Deep.Cut
import Derived.Deep.CutRange
import Derived.StillTailTactics
import Derived.Laws.ResultCell
namespace Go.Proofs.YtjpmhbnikoggaaaDoor
open Go.RowKit Go.Proofs.Ws
set_option maxRecDepth 100000
set_option maxRecDepth 100000
/-- block g holds just these slices of words -/
def HoldsV (w : World) (g : Nat) (vs : List Value) : Prop := w.heap[g]? = some (.cells vs.toArray 22 (0, 0))
theorem HoldsV.cell {w : World} {g : Nat} {vs : List Value} (h : HoldsV w g vs) (k : Nat) (hk : k < vs.length) : w.cell? ⟨g, k, none⟩ = some (vs.getD k undef) := by
  rw [Lib.cell_of_heap h, List.getElem?_toArray, List.getElem?_eq_getElem hk, List.getD_eq_getElem?_getD, List.getElem?_eq_getElem hk]
  rfl
theorem HoldsV.free {w : World} {g : Nat} {vs : List Value} (h : HoldsV w g vs) (k : Nat) : w.frozen? ⟨g, k, none⟩ = false := Lib.frozen_of_heap h k
theorem HoldsV.put {w : World} {g : Nat} {vs : List Value} (h : HoldsV w g vs) (k : Nat) (v : Value) : HoldsV (w.setCell ⟨g, k, none⟩ v) g (vs.set k v) := by
  unfold HoldsV at h ⊢
  have e : (vs.set k v).toArray = vs.toArray.setIfInBounds k v := by simp
  rw [e]
  simp [World.setCell, Array.getElem?_modify, h]
theorem HoldsV.lt {w : World} {g : Nat} {vs : List Value} (h : HoldsV w g vs) : g < w.heap.size := (Array.getElem?_eq_some_iff.1 h).1
theorem Tryd.infoV : (Tryd.prog.info? 22).map (fun i => (i.zero, i.size, i.bytes)) = some (some (.slice none 0 0), 1, 24) := by kernel_rfl
/-- a model whose data lie behind lo: it still reads where these blocks are as they were -/
def MoF (W : World) (lo : Nat) (v : Value) (m : Mo) : Prop := ∀ W' : World, W.heap.size ≤ W'.heap.size → (∀ j, lo ≤ j → j < W.heap.size → W'.heap[j]? = W.heap[j]?) → MoR W' W'.heap.size v m
theorem MoF.mono {W : World} {lo lo' : Nat} {v : Value} {m : Mo} (h : MoF W lo v m) (hl : lo' ≤ lo) : MoF W lo' v m := fun W' hs hag => h W' hs (fun j hj => hag j (by omega))
theorem MoF.below {W W2 : World} {lo : Nat} {v : Value} {m : Mo} (h : MoF W lo v m) (hb : Below W.heap.size W W2) : MoF W2 lo v m := fun W' hs hag =>
  h W' (Nat.le_trans hb.size hs) (fun j h1 h2 => (hag j h1 (Nat.lt_of_lt_of_le h2 hb.size)).trans (hb.block j h2))
/-- nothing but block g has changed -/
structure OnlyB (g : Nat) (wx wy : World) : Prop where
  os : wy.os = wx.os
  tape : wy.tape = wx.tape
  output : wy.output = wx.output
  size : wx.heap.size ≤ wy.heap.size
  block : ∀ j, j < wx.heap.size → j ≠ g → wy.heap[j]? = wx.heap[j]?
section
variable {wx wy : World}
theorem OnlyB.below {g B : Nat} (h : OnlyB g wx wy) (hg : B ≤ g) (hB : B ≤ wx.heap.size) : Below B wx wy := ⟨h.os, h.tape, h.output, h.size, fun j hj => h.block j (by omega) (by omega)⟩
end
section
variable {wx wy : World}
theorem OnlyB.refl (g : Nat) (wx : World) : OnlyB g wx wx := ⟨rfl, rfl, rfl, Nat.le_refl _, fun _ _ _ => rfl⟩
end
section
variable {wx wy : World}
theorem OnlyB.drew {g : Nat} (h : OnlyB g wx wy) : OnlyB g wx wy.drew := ⟨h.os, h.tape, h.output, h.size, h.block⟩
end
section
variable {wx wy : World}
theorem OnlyB.trans {g : Nat} {wz : World} (h : OnlyB g wx wy) (h2 : OnlyB g wy wz) : OnlyB g wx wz :=
  ⟨h2.os.trans h.os, h2.tape.trans h.tape, h2.output.trans h.output, Nat.le_trans h.size h2.size, fun j hj hg => (h2.block j (by have := h.size; omega) hg).trans (h.block j hj hg)⟩
end
section
variable {wx wy : World}
theorem OnlyB.set (g k : Nat) (wx : World) (u : Value) : OnlyB g wx (wx.setCell ⟨g, k, none⟩ u) := by
  have b := (Below.refl 0 wx).setCell (p := ⟨g, k, none⟩) (Nat.zero_le _) u
  exact ⟨b.os, b.tape, b.output, b.size, fun j _ hg => Below.heap_setCell wx ⟨g, k, none⟩ u j hg⟩
end
theorem results_cell {fn : Func} {p : Tmp} {ty : TypeId} (h : fn.results = #[.cell p ty]) (tmps : Array Value) (P : Program) (w : World) :
    (results fn tmps).run P w = ((asAddr (tmps.getD p undef)).run P w).andThen fun a w₁ => (loadVar ty a).run P w₁ := by
  simp only [results, h]
  simp [Sem.run_bind, Result.andThen]
theorem MBox.set3 {W : World} {H : Nat} {n n' : Int} {y z b c : Value} (h : MBox W H n y z) :
    MBox (((W.setCell ⟨H, 0, none⟩ (.int .i64 n')).setCell ⟨H, 1, none⟩ b).setCell ⟨H, 2, none⟩ c) H n' b c ∧ OnlyB H W (((W.setCell ⟨H, 0, none⟩ (.int .i64 n')).setCell ⟨H, 1, none⟩ b).setCell ⟨H, 2, none⟩ c) := by
  unfold MBox at *
  refine ⟨by simp [World.setCell, Array.getElem?_modify, h], ((OnlyB.set H 0 W (.int .i64 n')).trans (OnlyB.set H 1 _ b)).trans (OnlyB.set H 2 _ c)⟩
set_option maxRecDepth 100000
theorem MoR.zero (W : World) (B : Nat) : MoR W B (.agg #[.int .i64 0, .slice none 0 0, .slice none 0 0]) mo0 := by
  have hR : Reads W B 1 none 0 (us []) := by unfold us; exact Reads.none_
  exact ⟨⟨none, 0, none, 0, rfl, hR, ⟨rfl, [], Reads.none_, fun j hj => absurd hj (by simp [mo0])⟩⟩, ⟨by unfold maxLen; decide, by unfold maxLen; decide⟩, ⟨by decide, by decide⟩, fun x hx => absurd hx (by simp [mo0]), fun r hr => absurd hr (by simp [mo0])⟩
set_option maxRecDepth 100000
/-- a parameter and a result's cell -/
structure Rs (w wx : World) (n : Int) (v1 v2 : Value) : Prop where
  box : MBox wx w.heap.size n v1 v2
  res : MBox wx (w.heap.size + 1) 0 (.slice none 0 0) (.slice none 0 0)
  below : Below w.heap.size w wx
section
variable {wx wy : World}
theorem Rs.keep {w wx wy : World} {n : Int} {v1 v2 : Value} (h : Rs w wx n v1 v2) (hb : Below wx.heap.size wx wy) : Rs w wy n v1 v2 :=
  ⟨(hb.block _ h.box.lt).trans h.box, (hb.block _ h.res.lt).trans h.res, h.below.trans (hb.mono h.below.size)⟩
end
theorem Rs.made (w : World) (n : Int) (v1 v2 : Value) : Rs w ((w.alloc (.cells #[.int .i64 n, v1, v2] 25)).alloc (.cells #[.int .i64 0, .slice none 0 0, .slice none 0 0] 25)) n v1 v2 := by
  have h := BoxBox w n v1 v2 0 (.slice none 0 0) (.slice none 0 0)
  exact ⟨h.1, h.2.1, h.2.2⟩
section
variable {wx wy : World}
/-- behind the store of the result -/
theorem Rs.fin {w wx : World} {n : Int} {v1 v2 : Value} (h : Rs w wx n v1 v2) (n' : Int) (b c : Value) :
    MBox (((wx.setCell ⟨w.heap.size + 1, 0, none⟩ (.int .i64 n')).setCell ⟨w.heap.size + 1, 1, none⟩ b).setCell ⟨w.heap.size + 1, 2, none⟩ c) (w.heap.size + 1) n' b c ∧
    Below w.heap.size w (((wx.setCell ⟨w.heap.size + 1, 0, none⟩ (.int .i64 n')).setCell ⟨w.heap.size + 1, 1, none⟩ b).setCell ⟨w.heap.size + 1, 2, none⟩ c) ∧
    OnlyB (w.heap.size + 1) wx (((wx.setCell ⟨w.heap.size + 1, 0, none⟩ (.int .i64 n')).setCell ⟨w.heap.size + 1, 1, none⟩ b).setCell ⟨w.heap.size + 1, 2, none⟩ c) := by
  have h3 := h.res.set3 (n' := n') (b := b) (c := c)
  exact ⟨h3.1, h.below.trans (h3.2.below (by omega) (by have := h.res.lt; omega)), h3.2⟩
end
theorem MoF.only {W W' : World} {g lo : Nat} {v : Value} {m : Mo} (h : MoF W lo v m) (ho : OnlyB g W W') (hg : g < lo) : MoF W' lo v m := fun W2 hs hag =>
  h W2 (Nat.le_trans ho.size hs) (fun j h1 h2 => (hag j h1 (Nat.lt_of_lt_of_le h2 ho.size)).trans (ho.block j h2 (by omega)))
theorem MoF.zero (W : World) (lo : Nat) : MoF W lo (.agg #[.int .i64 0, .slice none 0 0, .slice none 0 0]) mo0 := fun W' _ _ => MoR.zero W' _
end Go.Proofs.YtjpmhbnikoggaaaDoor
