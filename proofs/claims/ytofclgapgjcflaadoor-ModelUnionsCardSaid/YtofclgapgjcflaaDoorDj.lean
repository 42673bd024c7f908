/- Layer 13: the model of some worlds, by the program. -/
import Derived.Test.YtofclgapgjcflaaDoorDi
import Derived.BigRegion
import Derived.Deep.Cut
import Derived.Deep.CutRange
import Derived.StillTailTactics
import Derived.Laws.ResultCell
namespace Go.Proofs.YtofclgapgjcflaaDoor
open Go.RowKit Go.Proofs.Ws
set_option maxRecDepth 100000
/-- block g holds just these slices of words -/
def HoldsV (w : World) (g : Nat) (vs : List Value) : Prop := w.heap[g]? = some (.cells vs.toArray 22 (0, 0))
theorem HoldsV.cell {w : World} {g : Nat} {vs : List Value} (h : HoldsV w g vs) (k : Nat) (hk : k < vs.length) : w.cell? ⟨g, k, none⟩ = some (vs.getD k undef) := by
  rw [Lib.cell_of_heap h, List.getElem?_toArray, List.getElem?_eq_getElem hk, List.getD_eq_getElem?_getD, List.getElem?_eq_getElem hk]
  rfl
theorem HoldsV.free {w : World} {g : Nat} {vs : List Value} (h : HoldsV w g vs) (k : Nat) : w.frozen? ⟨g, k, none⟩ = false := Lib.frozen_of_heap h k
theorem HoldsV.put {w : World} {g : Nat} {vs : List Value} (h : HoldsV w g vs) (k : Nat) (v : Value) : HoldsV (w.setCell ⟨g, k, none⟩ v) g (vs.set k v) := by
  unfold HoldsV at h ⊢
  have e : (vs.set k v).toArray = vs.toArray.setIfInBounds k v := by simp
  rw [e]
  simp [World.setCell, Array.getElem?_modify, h]
theorem HoldsV.lt {w : World} {g : Nat} {vs : List Value} (h : HoldsV w g vs) : g < w.heap.size := (Array.getElem?_eq_some_iff.1 h).1
theorem Tryd.infoV : (Tryd.prog.info? 22).map (fun i => (i.zero, i.size, i.bytes)) = some (some (.slice none 0 0), 1, 24) := by kernel_rfl
theorem made_vs (n : Nat) : madeCells (Value.slice none 0 0).cells n = (List.replicate n (Value.slice none 0 0)).toArray := by
  apply Array.ext
  · simp [madeCells, Value.cells]
  · intro i h1 h2
    simp [madeCells, Value.cells, Nat.mod_one]
theorem makeV (w : World) (n : Nat) (hn : n ≤ 1000000) : (Instr.makeSlice 23 (.int .i64 (n : Int)) (.int .i64 (n : Int))).run Tryd.prog w = .ok (.slice (some ⟨w.heap.size, 0, none⟩) n n) (w.alloc (.cells (List.replicate n (Value.slice none 0 0)).toArray 22)) := by
  obtain ⟨i0, hi, hz0, hz1, hz2⟩ := info_parts Tryd.infoV
  have h := run_make (P := Tryd.prog) w 23 22 i0 (.slice none 0 0) Tryd.underlying23 hi hz0 .i64 .i64 n n (by omega) (Int.le_refl _) (by rw [hz2]; omega) (by omega)
  rw [h, hz1]
  simp only [Int.toNat_natCast, Nat.mul_one]
  rw [made_vs]
/-- a model whose data lie behind lo: it still reads where these blocks are as they were -/
def MoF (W : World) (lo : Nat) (v : Value) (m : Mo) : Prop := ∀ W' : World, W.heap.size ≤ W'.heap.size → (∀ j, lo ≤ j → j < W.heap.size → W'.heap[j]? = W.heap[j]?) → MoR W' W'.heap.size v m
theorem MoF.self {W : World} {lo : Nat} {v : Value} {m : Mo} (h : MoF W lo v m) : MoR W W.heap.size v m := h W (Nat.le_refl _) (fun _ _ _ => rfl)
theorem MoF.mono {W : World} {lo lo' : Nat} {v : Value} {m : Mo} (h : MoF W lo v m) (hl : lo' ≤ lo) : MoF W lo' v m := fun W' hs hag => h W' hs (fun j hj => hag j (by omega))
theorem MoF.below {W W2 : World} {lo : Nat} {v : Value} {m : Mo} (h : MoF W lo v m) (hb : Below W.heap.size W W2) : MoF W2 lo v m := fun W' hs hag =>
  h W' (Nat.le_trans hb.size hs) (fun j h1 h2 => (hag j h1 (Nat.lt_of_lt_of_le h2 hb.size)).trans (hb.block j h2))
/-- blocks that a model under way lies in: the parameter, the result's cell, the part, its facts, its relations -/
structure Dm (w wx : World) (n : Int) (v1 v2 : Value) (P GV GR k nv nr : Nat) (LV : List Nat) (LR : List Value) : Prop where
  box : MBox wx w.heap.size n v1 v2
  res : MBox wx (w.heap.size + 1) 0 (.slice none 0 0) (.slice none 0 0)
  part : MBox wx P (k : Int) (.slice (some ⟨GV, 0, none⟩) nv nv) (.slice (some ⟨GR, 0, none⟩) nr nr)
  val : HoldsU wx GV LV
  rel : HoldsV wx GR LR
  below : Below w.heap.size w wx
  lt1 : w.heap.size + 1 < P
  lt2 : w.heap.size + 1 < GV
  lt3 : w.heap.size + 1 < GR
section
variable {w wx wy : World} {n : Int} {v1 v2 : Value} {P GV GR k nv nr : Nat} {LV : List Nat} {LR : List Value}
/-- nothing but block g has changed -/
structure OnlyB (g : Nat) (wx wy : World) : Prop where
  os : wy.os = wx.os
  tape : wy.tape = wx.tape
  output : wy.output = wx.output
  size : wx.heap.size ≤ wy.heap.size
  block : ∀ j, j < wx.heap.size → j ≠ g → wy.heap[j]? = wx.heap[j]?
theorem OnlyB.below {g B : Nat} (h : OnlyB g wx wy) (hg : B ≤ g) (hB : B ≤ wx.heap.size) : Below B wx wy := ⟨h.os, h.tape, h.output, h.size, fun j hj => h.block j (by omega) (by omega)⟩
theorem OnlyB.refl (g : Nat) (wx : World) : OnlyB g wx wx := ⟨rfl, rfl, rfl, Nat.le_refl _, fun _ _ _ => rfl⟩
theorem OnlyB.drew {g : Nat} (h : OnlyB g wx wy) : OnlyB g wx wy.drew := ⟨h.os, h.tape, h.output, h.size, h.block⟩
theorem OnlyB.trans {g : Nat} {wz : World} (h : OnlyB g wx wy) (h2 : OnlyB g wy wz) : OnlyB g wx wz :=
  ⟨h2.os.trans h.os, h2.tape.trans h.tape, h2.output.trans h.output, Nat.le_trans h.size h2.size, fun j hj hg => (h2.block j (by have := h.size; omega) hg).trans (h.block j hj hg)⟩
theorem OnlyB.set (g k : Nat) (wx : World) (u : Value) : OnlyB g wx (wx.setCell ⟨g, k, none⟩ u) := by
  have b := (Below.refl 0 wx).setCell (p := ⟨g, k, none⟩) (Nat.zero_le _) u
  exact ⟨b.os, b.tape, b.output, b.size, fun j _ hg => Below.heap_setCell wx ⟨g, k, none⟩ u j hg⟩
theorem OnlyB.cell {g : Nat} {p : Addr} (h : OnlyB g wx wy) (h1 : p.block < wx.heap.size) (h2 : p.block ≠ g) : wy.cell? p = wx.cell? p := World.cell?_of_block (h.block _ h1 h2)
theorem ne_VU {g g2 : Nat} {l : List Nat} {vs : List Value} (h : HoldsU wx g l) (h2 : HoldsV wx g2 vs) : g ≠ g2 := fun e => by
  subst e
  unfold HoldsU at h
  unfold HoldsV at h2
  rw [h] at h2
  injection h2 with h2
  injection h2 with _ h3
  exact absurd h3 (by decide)
theorem ne_UM {g g2 : Nat} {l : List Nat} (h : HoldsU wx g l) (h2 : MBox wx g2 n v1 v2) : g ≠ g2 := fun e => by
  subst e
  unfold HoldsU at h
  unfold MBox at h2
  rw [h] at h2
  injection h2 with h2
  injection h2 with _ h3
  exact absurd h3 (by decide)
theorem ne_VM {g g2 : Nat} {vs : List Value} (h : HoldsV wx g vs) (h2 : MBox wx g2 n v1 v2) : g ≠ g2 := fun e => by
  subst e
  unfold HoldsV at h
  unfold MBox at h2
  rw [h] at h2
  injection h2 with h2
  injection h2 with _ h3
  exact absurd h3 (by decide)
theorem Dm.drew (h : Dm w wx n v1 v2 P GV GR k nv nr LV LR) : Dm w wx.drew n v1 v2 P GV GR k nv nr LV LR := ⟨h.box, h.res, h.part, h.val, h.rel, h.below.drew, h.lt1, h.lt2, h.lt3⟩
/-- a step that leaves all these blocks alone -/
theorem Dm.keep {g : Nat} (h : Dm w wx n v1 v2 P GV GR k nv nr LV LR) (hb : OnlyB g wx wy) (hg : wx.heap.size ≤ g ∨ (w.heap.size + 1 < g ∧ g ≠ P ∧ g ≠ GV ∧ g ≠ GR)) : Dm w wy n v1 v2 P GV GR k nv nr LV LR := by
  have l0 := h.box.lt
  have l1 := h.res.lt
  have l2 := h.part.lt
  have l3 := h.val.lt
  have l4 := h.rel.lt
  exact ⟨(hb.block _ l0 (by omega)).trans h.box, (hb.block _ l1 (by omega)).trans h.res, (hb.block _ l2 (by omega)).trans h.part, (hb.block _ l3 (by omega)).trans h.val, (hb.block _ l4 (by omega)).trans h.rel,
    h.below.trans (hb.below (by omega) (by omega)), h.lt1, h.lt2, h.lt3⟩
theorem Dm.putV (h : Dm w wx n v1 v2 P GV GR k nv nr LV LR) (j x : Nat) : Dm w (wx.setCell ⟨GV, j, none⟩ (.int .u64 (x : Int))) n v1 v2 P GV GR k nv nr (LV.set j x) LR := by
  have hb := OnlyB.set GV j wx (.int .u64 (x : Int))
  have l0 := h.box.lt
  have l1 := h.res.lt
  have e2 := ne_UM h.val h.part
  have e3 := ne_VU h.val h.rel
  have l2 := h.lt2
  exact ⟨(hb.block _ l0 (by omega)).trans h.box, (hb.block _ l1 (by omega)).trans h.res, (hb.block _ h.part.lt (fun e => e2 e.symm)).trans h.part, h.val.put j x, (hb.block _ h.rel.lt (fun e => e3 e.symm)).trans h.rel,
    h.below.trans (hb.below (by omega) (by omega)), h.lt1, h.lt2, h.lt3⟩
theorem Dm.putR (h : Dm w wx n v1 v2 P GV GR k nv nr LV LR) (j : Nat) (v : Value) : Dm w (wx.setCell ⟨GR, j, none⟩ v) n v1 v2 P GV GR k nv nr LV (LR.set j v) := by
  have hb := OnlyB.set GR j wx v
  have l0 := h.box.lt
  have l1 := h.res.lt
  have e2 := ne_VM h.rel h.part
  have e3 := ne_VU h.val h.rel
  have l2 := h.lt3
  exact ⟨(hb.block _ l0 (by omega)).trans h.box, (hb.block _ l1 (by omega)).trans h.res, (hb.block _ h.part.lt (fun e => e2 e.symm)).trans h.part, (hb.block _ h.val.lt e3).trans h.val, h.rel.put j v,
    h.below.trans (hb.below (by omega) (by omega)), h.lt1, h.lt2, h.lt3⟩
theorem Dm.alloc (h : Dm w wx n v1 v2 P GV GR k nv nr LV LR) (o : Obj) : Dm w (wx.alloc o) n v1 v2 P GV GR k nv nr LV LR :=
  h.keep (g := wx.heap.size) ⟨rfl, rfl, rfl, by simp, fun j hj _ => Below.heap_alloc wx o j hj⟩ (.inl (Nat.le_refl _))
end
/-- a list filled so far -/
def fillL {α : Type} (f : Nat → α) (d : α) (n j : Nat) : List α := (List.range j).map f ++ List.replicate (n - j) d
theorem fillL_zero {α : Type} (f : Nat → α) (d : α) (n : Nat) : fillL f d n 0 = List.replicate n d := by simp [fillL]
theorem fillL_full {α : Type} (f : Nat → α) (d : α) (n : Nat) : fillL f d n n = (List.range n).map f := by simp [fillL]
theorem fillL_len {α : Type} (f : Nat → α) (d : α) {n j : Nat} (h : j ≤ n) : (fillL f d n j).length = n := by simp [fillL]; omega
theorem fillL_set {α : Type} (f : Nat → α) (d : α) {n j : Nat} (h : j < n) {x : α} (hx : x = f j) : (fillL f d n j).set j x = fillL f d n (j + 1) := by
  subst hx
  unfold fillL
  have e : n - j = (n - (j + 1)) + 1 := by omega
  rw [e, List.replicate_succ, List.range_succ, List.map_append, List.set_append_right _ _ (by simp)]
  simp
theorem map_getD {α β : Type} (f : α → β) (l : List α) (d : α) : (List.range l.length).map (fun i => f (l.getD i d)) = l.map f := by
  apply List.ext_getElem
  · simp
  · intro i h1 h2
    simp at h1
    simp [h1]
theorem results_cell {fn : Func} {p : Tmp} {ty : TypeId} (h : fn.results = #[.cell p ty]) (tmps : Array Value) (P : Program) (w : World) :
    (results fn tmps).run P w = ((asAddr (tmps.getD p undef)).run P w).andThen fun a w₁ => (loadVar ty a).run P w₁ := by
  simp only [results, h]
  simp [Sem.run_bind, Result.andThen]
theorem ret_cell1 {P : Program} {fn : Func} {p : Tmp} {ty : TypeId} (h : fn.results = #[.cell p ty]) (tmps : Array Value) (w : World) (g : Nat) (t : TypeId) (cs : Array Value) (fr : Nat × Nat) (d : TypeDesc)
    (hp : tmps.getD p undef = .pointer (some ⟨g, 0, none⟩)) (hg : w.heap[g]? = some (.cells cs t fr))
    (hu : P.underlying ty = some d) (hd : (match d with | .struct _ | .array _ _ => true | _ => false) = true) (hi : (P.info? ty).map (·.size) = some cs.size) :
    (results fn tmps).run P w = .ok (.agg cs) w := by
  rw [results_cell h, hp]
  simp [asAddr, Result.andThen, run_loadVar_row w g t ty cs fr d hg hu hd hi]
theorem MBox.set3 {W : World} {H : Nat} {n n' : Int} {y z b c : Value} (h : MBox W H n y z) :
    MBox (((W.setCell ⟨H, 0, none⟩ (.int .i64 n')).setCell ⟨H, 1, none⟩ b).setCell ⟨H, 2, none⟩ c) H n' b c ∧ OnlyB H W (((W.setCell ⟨H, 0, none⟩ (.int .i64 n')).setCell ⟨H, 1, none⟩ b).setCell ⟨H, 2, none⟩ c) := by
  unfold MBox at *
  refine ⟨by simp [World.setCell, Array.getElem?_modify, h], ((OnlyB.set H 0 W (.int .i64 n')).trans (OnlyB.set H 1 _ b)).trans (OnlyB.set H 2 _ c)⟩
/-- rows of words that lie each in its block -/
def RowsW (W : World) (lo k : Nat) (f : Nat → List Nat) (vs : List Value) (a : Nat) : Prop := ∀ j, j < a → ∃ g, vs[j]? = some (.slice (some ⟨g, 0, none⟩) k k) ∧ HoldsU W g (f j) ∧ lo < g
theorem RowsW.keep {W W' : World} {lo k a g0 : Nat} {f : Nat → List Nat} {vs : List Value} (h : RowsW W lo k f vs a) (ho : OnlyB g0 W W') (hg : W.heap.size ≤ g0 ∨ g0 ≤ lo) : RowsW W' lo k f vs a := fun j hj => by
  obtain ⟨g, h1, h2, h3⟩ := h j hj
  exact ⟨g, h1, (ho.block g h2.lt (by have := h2.lt; omega)).trans h2, h3⟩
theorem RowsW.keepV {W W' : World} {lo k a g0 : Nat} {f : Nat → List Nat} {vs LR : List Value} (h : RowsW W lo k f vs a) (ho : OnlyB g0 W W') (hg : HoldsV W g0 LR) : RowsW W' lo k f vs a := fun j hj => by
  obtain ⟨g, h1, h2, h3⟩ := h j hj
  exact ⟨g, h1, (ho.block g h2.lt (ne_VU h2 hg)).trans h2, h3⟩
theorem RowsW.snoc {W : World} {lo k a g : Nat} {f : Nat → List Nat} {vs : List Value} (h : RowsW W lo k f vs a) (hl : vs.length = a) (hg : HoldsU W g (f a)) (hlo : lo < g) : RowsW W lo k f (vs ++ [.slice (some ⟨g, 0, none⟩) k k]) (a + 1) := fun j hj => by
  by_cases e : j = a
  · subst e
    exact ⟨g, by rw [List.getElem?_append_right (by omega), hl]; simp, hg, hlo⟩
  · obtain ⟨g2, h1, h2, h3⟩ := h j (by omega)
    exact ⟨g2, by rw [List.getElem?_append_left (by omega)]; exact h1, h2, h3⟩
theorem RowsW.usr {W : World} {lo k a g : Nat} {f : Nat → List Nat} {vs : List Value} (h : RowsW W lo k f vs a) (hl : vs.length = a) (hf : ∀ j, j < a → (f j).length = k) (hk : k ≤ maxLen) (hg : HoldsV W g vs) :
    UsR W W.heap.size (some ⟨g, 0, none⟩) a ((List.range a).map f) := by
  refine ⟨by simp, vs, ⟨by omega, fun _ => ⟨_, rfl, hg.lt, fun j u hu => ?_⟩⟩, fun j hj => ?_⟩
  · rw [addr0]
    have hj : j < vs.length := by
      rcases Nat.lt_or_ge j vs.length with h' | h'
      · exact h'
      · rw [List.getElem?_eq_none h'] at hu; cases hu
    rw [hg.cell j hj, List.getD_eq_getElem?_getD, hu]; rfl
  · obtain ⟨g2, h1, h2, h3⟩ := h j hj
    have e : ((List.range a).map f).getD j [] = f j := by simp [hj]
    rw [e, hf j hj]
    have := h2.reads
    rw [hf j hj] at this
    exact ⟨_, _, h1, this, hk⟩
theorem five_at (w : World) (z0 z o1 o2 o3 : Array Value) (T00 T0 t1 t2 t3 : TypeId) :
    ((((((w.alloc (.cells z0 T00)).alloc (.cells z T0)).alloc (.cells o1 t1)).alloc (.cells o2 t2)).alloc (.cells o3 t3)).drew.heap[w.heap.size]? = some (.cells z0 T00 (0, 0))) ∧
    ((((((w.alloc (.cells z0 T00)).alloc (.cells z T0)).alloc (.cells o1 t1)).alloc (.cells o2 t2)).alloc (.cells o3 t3)).drew.heap[w.heap.size + 1]? = some (.cells z T0 (0, 0))) ∧
    ((((((w.alloc (.cells z0 T00)).alloc (.cells z T0)).alloc (.cells o1 t1)).alloc (.cells o2 t2)).alloc (.cells o3 t3)).drew.heap[w.heap.size + 1 + 1]? = some (.cells o1 t1 (0, 0))) ∧
    ((((((w.alloc (.cells z0 T00)).alloc (.cells z T0)).alloc (.cells o1 t1)).alloc (.cells o2 t2)).alloc (.cells o3 t3)).drew.heap[w.heap.size + 1 + 1 + 1]? = some (.cells o2 t2 (0, 0))) ∧
    ((((((w.alloc (.cells z0 T00)).alloc (.cells z T0)).alloc (.cells o1 t1)).alloc (.cells o2 t2)).alloc (.cells o3 t3)).drew.heap[w.heap.size + 1 + 1 + 1 + 1]? = some (.cells o3 t3 (0, 0))) ∧
    Below w.heap.size w (((((w.alloc (.cells z0 T00)).alloc (.cells z T0)).alloc (.cells o1 t1)).alloc (.cells o2 t2)).alloc (.cells o3 t3)).drew := by
  have sz : ∀ (W : World) (o : Obj), (W.alloc o).heap.size = W.heap.size + 1 := fun W o => by simp
  have new : ∀ (W : World) (o : Array Value) (t : TypeId) (k : Nat), k = W.heap.size → (W.alloc (.cells o t)).heap[k]? = some (.cells o t (0, 0)) := fun W o t k hk => by subst hk; exact heap_alloc_new W (.cells o t)
  have keep : ∀ (W : World) (o : Obj) (k : Nat) (x : Obj), W.heap[k]? = some x → (W.alloc o).heap[k]? = some x := fun W o k x h => (Below.heap_alloc W o k (Array.getElem?_eq_some_iff.1 h).1).trans h
  refine ⟨?_, ?_, ?_, ?_, ?_, ?_⟩
  · exact keep _ _ _ _ (keep _ _ _ _ (keep _ _ _ _ (keep _ _ _ _ (new _ _ _ _ rfl))))
  · exact keep _ _ _ _ (keep _ _ _ _ (keep _ _ _ _ (new _ _ _ _ (by simp only [sz]))))
  · exact keep _ _ _ _ (keep _ _ _ _ (new _ _ _ _ (by simp only [sz])))
  · exact keep _ _ _ _ (new _ _ _ _ (by simp only [sz]))
  · exact new _ _ _ _ (by simp only [sz])
  · exact (((((((Below.refl _ w).alloc (Nat.le_refl _) _).alloc (by simp) _).alloc (by simp; omega) _).alloc (by simp; omega) _).alloc (by simp; omega) _)).drew
set_option maxHeartbeats 8000000 in
theorem pick_any (m : Mo) (n : Nat) (l : List Nat) (v : Value) (A : Option Addr) (k c : Nat) (w : World) (hM : MoR w w.heap.size v m) (hok : OkM n m) (hR : Reads w w.heap.size 1 A k (iv l)) (hk : k ≤ 64) (hl : ∀ x ∈ l, x < n) :
    Calls Tryd.prog 41 #[v, .slice A k c] w fun e w' => ∃ v', e = .returned v' ∧ MoF w' w.heap.size v' (pickM m l) ∧ Below w.heap.size w w' := by
  obtain ⟨A1, c1, A2, c2, rfl, hv, hr⟩ := hM.ex
  have hnv : m.val.length ≤ 8 := hok.facts
  have hnr : m.rel.length ≤ 4 := hok.agents
  have HV := Lib.hid hv
  have HRR := Lib.hid hr
  have HL := Lib.hid hR
  have HM := Lib.hid hM
  have HOK := Lib.hid hok
  have HLT := Lib.hid hl
  have hmk0 := fun W => makeU W m.val.length (by omega)
  have hmk1 := fun W => makeV W m.rel.length (by omega)
  clear hM hok hv hr hR hl
  generalize hnve : m.val.length = nv at *
  generalize hnre : m.rel.length = nr at *
  have HNV := Lib.hid hnve
  have HNR := Lib.hid hnre
  clear hnve hnre
  go_enter Tryd.func41, Tryd.ntmps41
  go_upto_region 1 with fail
  go_cut [5] from 12 to 22 (fun v5 wx => ∃ P GV GR : Nat, v5 = .pointer (some ⟨P, 0, none⟩) ∧ Hid (Dm w wx m.n (.slice A1 nv c1) (.slice A2 nr c2) P GV GR k nv nr (List.replicate nv 0) (List.replicate nr (.slice none 0 0))))
  case first =>
    go_big_region
    all_goals (go_wp2_with fail; go_meet)
    all_goals
      have h5 := five_at w
      first
        | exact ⟨w.heap.size + 1 + 1, w.heap.size + 1 + 1 + 1, w.heap.size + 1 + 1 + 1 + 1, rfl, Lib.hid ⟨(h5 _ _ _ _ _ _ _ _ _ _).1, (h5 _ _ _ _ _ _ _ _ _ _).2.1, (h5 _ _ _ _ _ _ _ _ _ _).2.2.1, (h5 _ _ _ _ _ _ _ _ _ _).2.2.2.1, (h5 _ _ _ _ _ _ _ _ _ _).2.2.2.2.1, (h5 _ _ _ _ _ _ _ _ _ _).2.2.2.2.2, by omega, by omega, by omega⟩⟩
        | exact ⟨w.heap.size + 1 + 1, w.heap.size + 1 + 1 + 1 + 1, w.heap.size + 1 + 1 + 1, rfl, Lib.hid ⟨(h5 _ _ _ _ _ _ _ _ _ _).1, (h5 _ _ _ _ _ _ _ _ _ _).2.1, (h5 _ _ _ _ _ _ _ _ _ _).2.2.1, (h5 _ _ _ _ _ _ _ _ _ _).2.2.2.2.1, (h5 _ _ _ _ _ _ _ _ _ _).2.2.2.1, (h5 _ _ _ _ _ _ _ _ _ _).2.2.2.2.2, by omega, by omega, by omega⟩⟩
        | exact ⟨w.heap.size + 1 + 1 + 1, w.heap.size + 1 + 1, w.heap.size + 1 + 1 + 1 + 1, rfl, Lib.hid ⟨(h5 _ _ _ _ _ _ _ _ _ _).1, (h5 _ _ _ _ _ _ _ _ _ _).2.1, (h5 _ _ _ _ _ _ _ _ _ _).2.2.2.1, (h5 _ _ _ _ _ _ _ _ _ _).2.2.1, (h5 _ _ _ _ _ _ _ _ _ _).2.2.2.2.1, (h5 _ _ _ _ _ _ _ _ _ _).2.2.2.2.2, by omega, by omega, by omega⟩⟩
        | exact ⟨w.heap.size + 1 + 1 + 1, w.heap.size + 1 + 1 + 1 + 1, w.heap.size + 1 + 1, rfl, Lib.hid ⟨(h5 _ _ _ _ _ _ _ _ _ _).1, (h5 _ _ _ _ _ _ _ _ _ _).2.1, (h5 _ _ _ _ _ _ _ _ _ _).2.2.2.1, (h5 _ _ _ _ _ _ _ _ _ _).2.2.2.2.1, (h5 _ _ _ _ _ _ _ _ _ _).2.2.1, (h5 _ _ _ _ _ _ _ _ _ _).2.2.2.2.2, by omega, by omega, by omega⟩⟩
        | exact ⟨w.heap.size + 1 + 1 + 1 + 1, w.heap.size + 1 + 1, w.heap.size + 1 + 1 + 1, rfl, Lib.hid ⟨(h5 _ _ _ _ _ _ _ _ _ _).1, (h5 _ _ _ _ _ _ _ _ _ _).2.1, (h5 _ _ _ _ _ _ _ _ _ _).2.2.2.2.1, (h5 _ _ _ _ _ _ _ _ _ _).2.2.1, (h5 _ _ _ _ _ _ _ _ _ _).2.2.2.1, (h5 _ _ _ _ _ _ _ _ _ _).2.2.2.2.2, by omega, by omega, by omega⟩⟩
        | exact ⟨w.heap.size + 1 + 1 + 1 + 1, w.heap.size + 1 + 1 + 1, w.heap.size + 1 + 1, rfl, Lib.hid ⟨(h5 _ _ _ _ _ _ _ _ _ _).1, (h5 _ _ _ _ _ _ _ _ _ _).2.1, (h5 _ _ _ _ _ _ _ _ _ _).2.2.2.2.1, (h5 _ _ _ _ _ _ _ _ _ _).2.2.2.1, (h5 _ _ _ _ _ _ _ _ _ _).2.2.1, (h5 _ _ _ _ _ _ _ _ _ _).2.2.2.2.2, by omega, by omega, by omega⟩⟩
  case rest =>
    obtain ⟨P, GV, GR, rfl, HD⟩ := hcut
    have HI := Lib.hid (fun W (hb : Below w.heap.size w W) (s : Nat) (hs : s < 18446744073709551616) => (indices_any l s A k c W.heap.size W ((HL.out.below hb).more hb.size) hk (fun x hx => by have := HLT.out x hx; have := HOK.out.le; omega) hs).mono fun _ _ h => And.intro h.1 h.2.symm)
    have HWV := Lib.hid (fun j => words_getD HM.out.wval j)
    have HWR := Lib.hid (fun a j => Nat.lt_of_lt_of_le (relW_lt HOK.out.rel a j) (show 2 ^ n ≤ 18446744073709551616 from Nat.pow_le_pow_right (show 0 < 2 by decide) HOK.out.le))
    have HRL := Lib.hid (fun a (h : a < nr) => HOK.out.len (m.rel.getD a []) (getD_mem' (by have := HNR.out; omega)))
    have HLX := Lib.hid (fun j (h : j < k) => HLT.out (l.getD j 0) (getD_mem' (by have := HL.out.iv_len; omega)))
    clear hmk1
    have hmk2 := fun W => makeU W k (by omega)
    clear hmk0
    have b1 := HD.out.box.c1
    go_wp2
    clear b1
    go_loopw [6, 7, 26] (fun _ _ i wr => ∃ j : Nat, j ≤ nv ∧ i = .int .i64 j ∧ Hid (Dm w wr m.n (.slice A1 nv c1) (.slice A2 nr c2) P GV GR k nv nr (fillL (fun i => ix l (m.val.getD i 0)) 0 nv j) (List.replicate nr (.slice none 0 0)))) (fun _ _ i _ => nv - (intOf i).toNat)
    case atStart => exact ⟨0, Nat.zero_le _, rfl, Lib.hid (by rw [fillL_zero]; exact HD.out)⟩
    case round =>
      obtain ⟨j, hj, rfl, HDj⟩ := hrel
      have b1 := HDj.out.box.c1
      have p1 := HDj.out.part.c1
      by_cases hlt : j < nv
      · obtain ⟨ad, rfl, hb, hc⟩ := (HV.out.below HDj.out.below).word_k hlt
        have hz := HWV.out j
        have HSET := Lib.hid (fun (x : Nat) h => fillL_set (fun i => ix l (m.val.getD i 0)) 0 hlt (x := x) h)
        have hfr := HDj.out.val.free j
        have hcv := HDj.out.val.cell j (by rw [fillL_len _ _ hj]; exact hlt)
        generalize hzz : m.val.getD j 0 = z at *
        have HZ := Lib.hid hzz
        have HN := Lib.hid (HSET.out (ix l z) (by first | rfl | (dsimp only; rw [HZ.out])))
        clear HSET hzz
        have hI := HI.out wr.drew HDj.out.below.drew z hz
        have HII := Lib.hid hI
        clear hI hz
        go_wp2
        refine wp_region_still_tail 7 (by kernel_rfl) (by kernel_rfl) ?_
        simp only [List.take_succ_cons, List.take_zero, List.drop_succ_cons, List.drop_zero]
        repeat still_step
        still_call HII.out
        repeat still_step
        try refine wpStill_nil ?_
        change wpList _ _ _ _ _ wr.drew
        have HDd := Lib.hid (HDj.out.drew)
        have hfr2 := HDd.out.val.free j
        have hcv2 := HDd.out.val.cell j (by rw [fillL_len _ _ hj]; exact hlt)
        clear hfr hcv hc b1 p1
        generalize wr.drew = w4 at *
        go_wp2
        go_roundw
        case rel => exact ⟨j + 1, by omega, by go_num, Lib.hid (by have h9 := HDd.out.putV j (ix l z); rw [HN.out] at h9; exact h9)⟩
        case measure => first | (simp [intOf]; done) | (simp [intOf]; omega)
      · obtain rfl : nv = j := by omega
        have HDF := HDj
        rw [fillL_full] at HDF
        obtain ⟨F, hF⟩ : ∃ F : Nat → List Nat, F = fun a => l.map (fun x => ix l ((m.rel.getD a []).getD x 0)) := ⟨_, rfl⟩
        have HF := Lib.hid hF
        clear hF HDj p1 hlt
        have b2 := HDF.out.box.c2
        go_wp2
        clear b1 b2
        go_loopw [8, 9, 10, 11, 42, 56] (fun _ _ _ _ i _ wx => ∃ (a : Nat) (vs : List Value), a ≤ nr ∧ i = .int .i64 a ∧ Hid (vs.length = a) ∧ Hid (Dm w wx m.n (.slice A1 nv c1) (.slice A2 nr c2) P GV GR k nv nr ((List.range nv).map (fun i => ix l (m.val.getD i 0))) (vs ++ List.replicate (nr - a) (.slice none 0 0))) ∧ Hid (RowsW wx (w.heap.size + 1) k F vs a)) (fun _ _ _ _ i _ _ => nr - (intOf i).toNat)
        case atStart => exact ⟨0, [], Nat.zero_le _, rfl, Lib.hid rfl, HDF, Lib.hid (fun j hj => absurd hj (by omega))⟩
        case round =>
          obtain ⟨a, vs, ha, rfl, HVL, HDa, HRW⟩ := hrel
          by_cases hlt : a < nr
          · obtain ⟨ad, Aj, cj, rfl, hb, hc0, hrj, hlj⟩ := HRR.out.at_ hlt
            have hc := (HDa.out.below.cell (p := ad.add a) (by rw [block_of_add]; exact hb)).trans hc0
            clear hc0
            have hlen := HRL.out a hlt
            rw [hlen] at hc hrj
            have HRJ := Lib.hid hrj
            have p2 := HDa.out.part.c2
            have hcr := HDa.out.rel.cell a (by rw [List.length_append, HVL.out, List.length_replicate]; omega)
            have hfr := HDa.out.rel.free a
            have hbA : Below wr.heap.size wr (wr.alloc (.cells (us (List.replicate k 0)).toArray 31)) := (Below.refl _ wr).alloc (Nat.le_refl _) _
            have p2a := (hbA.cell (p := ⟨P, 2, none⟩) HDa.out.part.lt).trans p2
            have hcra := (hbA.cell (p := ⟨GR, a, none⟩) HDa.out.rel.lt).trans hcr
            have hfra := (hbA.frozen (p := ⟨GR, a, none⟩) HDa.out.rel.lt).trans hfr
            clear hlen hrj hlj hbA
            generalize hold : (vs ++ List.replicate (nr - a) (Value.slice none 0 0)).getD a undef = old at *
            clear hold
            go_wp2
            go_region
            have HDn : Hid (Dm w ((wr.alloc (.cells (us (List.replicate k 0)).toArray 31)).setCell ⟨GR, a, none⟩ (.slice (some ⟨wr.heap.size, 0, none⟩) k k)).drew m.n (.slice A1 nv c1) (.slice (some ad) nr c2) P GV GR k nv nr ((List.range nv).map (fun i => ix l (m.val.getD i 0))) ((vs ++ [.slice (some ⟨wr.heap.size, 0, none⟩) k k]) ++ List.replicate (nr - (a + 1)) (.slice none 0 0))) := Lib.hid (by
              have h9 := ((HDa.out.alloc (.cells (us (List.replicate k 0)).toArray 31)).putR a (.slice (some ⟨wr.heap.size, 0, none⟩) k k)).drew
              rw [show nr - a = (nr - (a + 1)) + 1 by omega, List.replicate_succ, List.set_append_right _ _ (by have := HVL.out; omega), HVL.out, Nat.sub_self, List.set_cons_zero] at h9
              rw [List.append_assoc]
              exact h9)
            have HRn : Hid (RowsW ((wr.alloc (.cells (us (List.replicate k 0)).toArray 31)).setCell ⟨GR, a, none⟩ (.slice (some ⟨wr.heap.size, 0, none⟩) k k)).drew (w.heap.size + 1) k F vs a) := Lib.hid (by
              have h9 := HRW.out.keep (g0 := wr.heap.size) (W' := wr.alloc (.cells (us (List.replicate k 0)).toArray 31)) ⟨rfl, rfl, rfl, by simp, fun j hj _ => Below.heap_alloc wr _ j hj⟩ (.inl (Nat.le_refl _))
              exact h9.keepV (OnlyB.set GR a _ _).drew (HDa.out.alloc _).rel)
            have HUn : Hid (HoldsU ((wr.alloc (.cells (us (List.replicate k 0)).toArray 31)).setCell ⟨GR, a, none⟩ (.slice (some ⟨wr.heap.size, 0, none⟩) k k)).drew wr.heap.size (List.replicate k 0)) := Lib.hid (by
              have h9 := HoldsU.made wr (List.replicate k 0)
              have hne : wr.heap.size ≠ GR := by have := HDa.out.rel.lt; omega
              exact h9.far hne a _)
            have HGlo : Hid (w.heap.size + 1 < wr.heap.size ∧ P < wr.heap.size ∧ GV < wr.heap.size ∧ GR < wr.heap.size) := Lib.hid ⟨by have := HDa.out.res.lt; omega, HDa.out.part.lt, HDa.out.val.lt, HDa.out.rel.lt⟩
            have HGL : Hid (∀ j, j < a → ∀ g, vs[j]? = some (.slice (some ⟨g, 0, none⟩) k k) → g < wr.heap.size) := Lib.hid (fun j hj g hg => by
              obtain ⟨g', h1, h2, _⟩ := HRW.out j hj
              rw [h1] at hg
              injection hg with hg
              injection hg with hg
              injection hg with hg
              injection hg with hg
              have := h2.lt
              omega)
            have HADB : Hid (ad.block < w.heap.size) := Lib.hid hb
            clear p2 p2a hcr hcra hfr hfra hc hb HDa HRW
            generalize ((wr.alloc (.cells (us (List.replicate k 0)).toArray 31)).setCell ⟨GR, a, none⟩ (.slice (some ⟨wr.heap.size, 0, none⟩) k k)).drew = w5 at *
            generalize wr.heap.size = g0 at *
            have hcl : ((vs ++ [Value.slice (some ⟨g0, 0, none⟩) k k]) ++ List.replicate (nr - (a + 1)) (Value.slice none 0 0)).getD a undef = .slice (some ⟨g0, 0, none⟩) k k := by
              rw [List.getD_eq_getElem?_getD, List.append_assoc, List.getElem?_append_right (by have := HVL.out; omega), HVL.out, Nat.sub_self]
              rfl
            have hcr5 := HDn.out.rel.cell a (by rw [List.length_append, List.length_append, HVL.out, List.length_replicate]; simp; omega)
            rw [hcl] at hcr5
            have HCR := Lib.hid hcr5
            have HFA : Hid (F a = (List.range k).map (fun j => ix l ((m.rel.getD a []).getD (l.getD j 0) 0))) := Lib.hid (by
              rw [HF.out]
              have hlk : l.length = k := HL.out.iv_len
              rw [← hlk]
              exact (map_getD (fun x => ix l ((m.rel.getD a []).getD x 0)) l 0).symm)
            clear hcl hcr5
            go_wp2
            go_loopw [10, 11, 56] (fun _ _ i wy => ∃ j : Nat, j ≤ k ∧ i = .int .i64 j ∧ Hid (HoldsU wy g0 (fillL (fun j => ix l ((m.rel.getD a []).getD (l.getD j 0) 0)) 0 k j)) ∧ Hid (OnlyB g0 w5 wy)) (fun _ _ i _ => k - (intOf i).toNat)
            case atStart => exact ⟨0, Nat.zero_le _, rfl, Lib.hid (by rw [fillL_zero]; exact HUn.out), Lib.hid (OnlyB.refl _ _)⟩
            case round =>
              obtain ⟨j, hj, rfl, HU, HO⟩ := hrel
              by_cases hlt2 : j < k
              · have hsz5 : w.heap.size ≤ w5.heap.size := HDn.out.below.size
                have HBy : Hid (Below w.heap.size w wr) := Lib.hid (HDn.out.below.trans (HO.out.below (by have := HGlo.out; omega) hsz5))
                obtain ⟨al, rfl, hal, hcl2⟩ := (HL.out.below HBy.out).iv_k hlt2
                have hxn := HLX.out j hlt2
                have hcell := (HRJ.out.below HBy.out).word_k (k := l.getD j 0) hxn
                obtain ⟨aj, rfl, haj, hcj⟩ := hcell
                have hzw := HWR.out a (l.getD j 0)
                have hpp := (HO.out.cell (p := ⟨P, 2, none⟩) HDn.out.part.lt (by have := HGlo.out; show P ≠ g0; omega)).trans HDn.out.part.c2
                have hgr := (HO.out.cell (p := ⟨GR, a, none⟩) HDn.out.rel.lt (by have := HGlo.out; show GR ≠ g0; omega)).trans HCR.out
                have HSET := Lib.hid (fun (x : Nat) h => fillL_set (fun j => ix l ((m.rel.getD a []).getD (l.getD j 0) 0)) 0 hlt2 (x := x) h)
                have HNX := Lib.hid (HSET.out (ix l ((m.rel.getD a []).getD (l.getD j 0) 0)) rfl)
                have HII := Lib.hid (HI.out wr.drew HBy.out.drew ((m.rel.getD a []).getD (l.getD j 0) 0) hzw)
                clear HSET hzw
                generalize (m.rel.getD a []).getD (l.getD j 0) 0 = z at *
                generalize l.getD j 0 = x at *
                have hcu := HU.out.cell j (by rw [fillL_len _ _ hj]; exact hlt2)
                have hfu := HU.out.free j
                go_wp2
                refine wp_region_still_tail 13 (by kernel_rfl) (by kernel_rfl) ?_
                simp only [List.take_succ_cons, List.take_zero, List.drop_succ_cons, List.drop_zero]
                repeat still_step
                still_call HII.out
                repeat still_step
                try refine wpStill_nil ?_
                change wpList _ _ _ _ _ wr.drew
                have HUd : Hid (HoldsU wr.drew g0 (fillL (fun j => ix l ((m.rel.getD a []).getD (l.getD j 0) 0)) 0 k j)) := HU
                have HOd : Hid (OnlyB g0 w5 wr.drew) := Lib.hid HO.out.drew
                have hcu2 := HUd.out.cell j (by rw [fillL_len _ _ hj]; exact hlt2)
                have hfu2 := HUd.out.free j
                clear hcu hfu hgr hpp hcj hcl2 HU HO HBy HII
                generalize wr.drew = w6 at *
                go_wp2
                go_roundw
                case rel => exact ⟨j + 1, by omega, by go_num, Lib.hid (by have h9 := HUd.out.put j (ix l z); rw [HNX.out] at h9; exact h9), Lib.hid (HOd.out.trans (OnlyB.set g0 j _ _))⟩
                case measure => first | (simp [intOf]; done) | (simp [intOf]; omega)
              · obtain rfl : k = j := by omega
                have HUf := HU
                rw [fillL_full, ← HFA.out] at HUf
                have HDf := Lib.hid (HDn.out.keep HO.out (.inr ⟨HGlo.out.1, by have := HGlo.out; omega, by have := HGlo.out; omega, by have := HGlo.out; omega⟩))
                have HRf : Hid (RowsW wr (w.heap.size + 1) k F (vs ++ [.slice (some ⟨g0, 0, none⟩) k k]) (a + 1)) := Lib.hid (by
                  refine RowsW.snoc (fun j hj => ?_) HVL.out HUf.out HGlo.out.1
                  obtain ⟨g, h1, h2, h3⟩ := HRn.out j hj
                  exact ⟨g, h1, (HO.out.block g h2.lt (by have := HGL.out j hj g h1; omega)).trans h2, h3⟩)
                clear hlt2 HU
                go_wp2
                go_roundw
                case rel => exact ⟨a + 1, vs ++ [.slice (some ⟨g0, 0, none⟩) k k], by omega, by go_num, Lib.hid (by rw [List.length_append, HVL.out]; rfl), HDf, HRf⟩
                case measure => first | (simp [intOf]; done) | (simp [intOf]; omega)
          · obtain rfl : nr = a := by omega
            have HDz := HDa
            rw [Nat.sub_self, List.replicate_zero, List.append_nil] at HDz
            have hlk : l.length = k := HL.out.iv_len
            have q0 := HDz.out.part.c0
            have q1 := HDz.out.part.c1
            have q2 := HDz.out.part.c2
            have y0 := HDz.out.res.c0
            have y1 := HDz.out.res.c1
            have y2 := HDz.out.res.c2
            have f0 := HDz.out.res.free 0
            have f1 := HDz.out.res.free 1
            have f2 := HDz.out.res.free 2
            have HLK := Lib.hid hlk
            clear hlk HDa
            go_wp2
            have HZ3 := Lib.hid (HDz.out.res.set3 (n' := (k : Int)) (b := .slice (some ⟨GV, 0, none⟩) nv nv) (c := .slice (some ⟨GR, 0, none⟩) nr nr))
            clear q0 q1 q2 y0 y1 y2 f0 f1 f2
            generalize (((wr.setCell ⟨w.heap.size + 1, 0, none⟩ (.int .i64 (k : Int))).setCell ⟨w.heap.size + 1, 1, none⟩ (.slice (some ⟨GV, 0, none⟩) nv nv)).setCell ⟨w.heap.size + 1, 2, none⟩ (.slice (some ⟨GR, 0, none⟩) nr nr)) = w7 at *
            (try simp only [Exit.inBlock, Exit.then])
            refine bodyPost_ret (ret_cell1 rfl _ _ (w.heap.size + 1) _ _ _ _ rfl HZ3.out.1 Tryd.underlying25 rfl (by kernel_rfl)) rfl ?_
            have hvv : HoldsU w7 GV ((List.range nv).map (fun i => ix l (m.val.getD i 0))) := (HZ3.out.2.block GV HDz.out.val.lt (by have := HDz.out.lt2; omega)).trans HDz.out.val
            have hrr : HoldsV w7 GR vs := (HZ3.out.2.block GR HDz.out.rel.lt (by have := HDz.out.lt3; omega)).trans HDz.out.rel
            have hro := HRW.out.keep HZ3.out.2 (.inr (Nat.le_refl _))
            have hBz := HZ3.out.2.below (B := w.heap.size) (by omega) (by have := HDz.out.res.lt; omega)
            have ev : (List.range nv).map (fun i => ix l (m.val.getD i 0)) = (pickM m l).val := by
              show _ = m.val.map (ix l)
              rw [← HNV.out]
              exact map_getD (ix l) m.val 0
            have er : (List.range nr).map F = (pickM m l).rel := by
              show _ = m.rel.map _
              rw [HF.out, ← HNR.out]
              exact map_getD (fun r : List Nat => l.map (fun x => ix l (r.getD x 0))) m.rel []
            have lv : (pickM m l).val.length = nv := by rw [← ev]; simp
            have lr : (pickM m l).rel.length = nr := by rw [← er]; simp
            have hix : ∀ s, ix l s < 18446744073709551616 := fun s => Nat.lt_of_lt_of_le (ixN_lt l s l.length) (Nat.pow_le_pow_right (show 0 < 2 by decide) (show l.length ≤ 64 by have := HLK.out; omega))
            refine ⟨_, rfl, fun W' _ hag => ?_, HDz.out.below.trans hBz⟩
            have hvv := (hag GV (by have := HDz.out.lt2; omega) hvv.lt).trans hvv
            have hvv : HoldsU W' GV ((List.range nv).map (fun i => ix l (m.val.getD i 0))) := hvv
            have hrr : HoldsV W' GR vs := (hag GR (by have := HDz.out.lt3; omega) hrr.lt).trans hrr
            have hro : RowsW W' (w.heap.size + 1) k F vs nr := fun j hj => by
              obtain ⟨g, h1, h2, h3⟩ := hro j hj
              exact ⟨g, h1, (hag g (by omega) h2.lt).trans h2, h3⟩
            refine ⟨⟨some ⟨GV, 0, none⟩, nv, some ⟨GR, 0, none⟩, nr, ?_, ?_, ?_⟩, ⟨by rw [lv]; unfold maxLen; omega, by rw [lr]; unfold maxLen; omega⟩, ?_, ?_, ?_⟩
            · rw [lv, lr]
              show _ = Value.agg #[.int .i64 ((l.length : Nat) : Int), _, _]
              rw [HLK.out]
            · rw [lv, ← ev]
              have h9 := hvv.reads
              rw [List.length_map, List.length_range] at h9
              exact h9
            · rw [lr, ← er]
              exact hro.usr HVL.out (fun j _ => by rw [HF.out]; simp [HLK.out]) (by unfold maxLen; omega) hrr
            · show -9223372036854775808 ≤ ((l.length : Nat) : Int) ∧ ((l.length : Nat) : Int) < 9223372036854775808
              have := HLK.out
              omega
            · intro x hx
              have hx : x ∈ m.val.map (ix l) := hx
              obtain ⟨y, _, rfl⟩ := List.mem_map.1 hx
              exact hix y
            · intro r hr
              have hr : r ∈ m.rel.map (fun r : List Nat => l.map (fun x => ix l (r.getD x 0))) := hr
              obtain ⟨q, _, rfl⟩ := List.mem_map.1 hr
              intro x hx
              obtain ⟨y, _, rfl⟩ := List.mem_map.1 hx
              exact hix _
end Go.Proofs.YtofclgapgjcflaaDoor
