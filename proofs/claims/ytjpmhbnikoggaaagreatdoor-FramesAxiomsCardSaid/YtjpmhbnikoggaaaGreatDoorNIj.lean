/- Layer 6: texts joined: Fv Fr7 Fr8 Fr9. -/
import Derived.Test.YtjpmhbnikoggaaaGreatDoorNIh
import Derived.Test.YtjpmhbnikoggaaaGreatDoorNIi
import Derived.Deep.Cut
import Derived.Deep.CutRange
import Derived.StillTailTactics
import Derived.Laws.ResultCell
/- Layer 15: models in memory (what its program needs of layer 13's texts). -/
namespace Go.Proofs.YtjpmhbnikoggaaaGreatDoor
open Go.RowKit Go.Proofs.Ws
set_option maxRecDepth 100000
set_option maxRecDepth 100000
/-- block g holds just these slices of words -/
def HoldsV (w : World) (g : Nat) (vs : List Value) : Prop := w.heap[g]? = some (.cells vs.toArray 22 (0, 0))
theorem HoldsV.cell {w : World} {g : Nat} {vs : List Value} (h : HoldsV w g vs) (k : Nat) (hk : k < vs.length) : w.cell? ⟨g, k, none⟩ = some (vs.getD k undef) := by
  rw [Lib.cell_of_heap h, List.getElem?_toArray, List.getElem?_eq_getElem hk, List.getD_eq_getElem?_getD, List.getElem?_eq_getElem hk]
  rfl
theorem HoldsV.free {w : World} {g : Nat} {vs : List Value} (h : HoldsV w g vs) (k : Nat) : w.frozen? ⟨g, k, none⟩ = false := Lib.frozen_of_heap h k
theorem HoldsV.put {w : World} {g : Nat} {vs : List Value} (h : HoldsV w g vs) (k : Nat) (v : Value) : HoldsV (w.setCell ⟨g, k, none⟩ v) g (vs.set k v) := by
  unfold HoldsV at h ⊢
  have e : (vs.set k v).toArray = vs.toArray.setIfInBounds k v := by simp
  rw [e]
  simp [World.setCell, Array.getElem?_modify, h]
theorem HoldsV.lt {w : World} {g : Nat} {vs : List Value} (h : HoldsV w g vs) : g < w.heap.size := (Array.getElem?_eq_some_iff.1 h).1
theorem Tryz.infoV : (Tryz.prog.info? 22).map (fun i => (i.zero, i.size, i.bytes)) = some (some (.slice none 0 0), 1, 24) := by kernel_rfl
theorem made_vs (n : Nat) : madeCells (Value.slice none 0 0).cells n = (List.replicate n (Value.slice none 0 0)).toArray := by
  apply Array.ext
  · simp [madeCells, Value.cells]
  · intro i h1 h2
    simp [madeCells, Value.cells, Nat.mod_one]
theorem makeV (w : World) (n : Nat) (hn : n ≤ 1000000) : (Instr.makeSlice 23 (.int .i64 (n : Int)) (.int .i64 (n : Int))).run Tryz.prog w = .ok (.slice (some ⟨w.heap.size, 0, none⟩) n n) (w.alloc (.cells (List.replicate n (Value.slice none 0 0)).toArray 22)) := by
  obtain ⟨i0, hi, hz0, hz1, hz2⟩ := info_parts Tryz.infoV
  have h := run_make (P := Tryz.prog) w 23 22 i0 (.slice none 0 0) Tryz.underlying23 hi hz0 .i64 .i64 n n (by omega) (Int.le_refl _) (by rw [hz2]; omega) (by omega)
  rw [h, hz1]
  simp only [Int.toNat_natCast, Nat.mul_one]
  rw [made_vs]
/-- a model whose data lie behind lo: it still reads where these blocks are as they were -/
def MoF (W : World) (lo : Nat) (v : Value) (m : Mo) : Prop := ∀ W' : World, W.heap.size ≤ W'.heap.size → (∀ j, lo ≤ j → j < W.heap.size → W'.heap[j]? = W.heap[j]?) → MoR W' W'.heap.size v m
theorem MoF.self {W : World} {lo : Nat} {v : Value} {m : Mo} (h : MoF W lo v m) : MoR W W.heap.size v m := h W (Nat.le_refl _) (fun _ _ _ => rfl)
theorem MoF.mono {W : World} {lo lo' : Nat} {v : Value} {m : Mo} (h : MoF W lo v m) (hl : lo' ≤ lo) : MoF W lo' v m := fun W' hs hag => h W' hs (fun j hj => hag j (by omega))
theorem MoF.below {W W2 : World} {lo : Nat} {v : Value} {m : Mo} (h : MoF W lo v m) (hb : Below W.heap.size W W2) : MoF W2 lo v m := fun W' hs hag =>
  h W' (Nat.le_trans hb.size hs) (fun j h1 h2 => (hag j h1 (Nat.lt_of_lt_of_le h2 hb.size)).trans (hb.block j h2))
/-- nothing but block g has changed -/
structure OnlyB (g : Nat) (wx wy : World) : Prop where
  os : wy.os = wx.os
  tape : wy.tape = wx.tape
  output : wy.output = wx.output
  size : wx.heap.size ≤ wy.heap.size
  block : ∀ j, j < wx.heap.size → j ≠ g → wy.heap[j]? = wx.heap[j]?
section
variable {wx wy : World}
theorem OnlyB.below {g B : Nat} (h : OnlyB g wx wy) (hg : B ≤ g) (hB : B ≤ wx.heap.size) : Below B wx wy := ⟨h.os, h.tape, h.output, h.size, fun j hj => h.block j (by omega) (by omega)⟩
end
section
variable {wx wy : World}
theorem OnlyB.refl (g : Nat) (wx : World) : OnlyB g wx wx := ⟨rfl, rfl, rfl, Nat.le_refl _, fun _ _ _ => rfl⟩
end
section
variable {wx wy : World}
theorem OnlyB.drew {g : Nat} (h : OnlyB g wx wy) : OnlyB g wx wy.drew := ⟨h.os, h.tape, h.output, h.size, h.block⟩
end
section
variable {wx wy : World}
theorem OnlyB.trans {g : Nat} {wz : World} (h : OnlyB g wx wy) (h2 : OnlyB g wy wz) : OnlyB g wx wz :=
  ⟨h2.os.trans h.os, h2.tape.trans h.tape, h2.output.trans h.output, Nat.le_trans h.size h2.size, fun j hj hg => (h2.block j (by have := h.size; omega) hg).trans (h.block j hj hg)⟩
end
section
variable {wx wy : World}
theorem OnlyB.set (g k : Nat) (wx : World) (u : Value) : OnlyB g wx (wx.setCell ⟨g, k, none⟩ u) := by
  have b := (Below.refl 0 wx).setCell (p := ⟨g, k, none⟩) (Nat.zero_le _) u
  exact ⟨b.os, b.tape, b.output, b.size, fun j _ hg => Below.heap_setCell wx ⟨g, k, none⟩ u j hg⟩
end
theorem results_cell {fn : Func} {p : Tmp} {ty : TypeId} (h : fn.results = #[.cell p ty]) (tmps : Array Value) (P : Program) (w : World) :
    (results fn tmps).run P w = ((asAddr (tmps.getD p undef)).run P w).andThen fun a w₁ => (loadVar ty a).run P w₁ := by
  simp only [results, h]
  simp [Sem.run_bind, Result.andThen]
theorem MBox.set3 {W : World} {H : Nat} {n n' : Int} {y z b c : Value} (h : MBox W H n y z) :
    MBox (((W.setCell ⟨H, 0, none⟩ (.int .i64 n')).setCell ⟨H, 1, none⟩ b).setCell ⟨H, 2, none⟩ c) H n' b c ∧ OnlyB H W (((W.setCell ⟨H, 0, none⟩ (.int .i64 n')).setCell ⟨H, 1, none⟩ b).setCell ⟨H, 2, none⟩ c) := by
  unfold MBox at *
  refine ⟨by simp [World.setCell, Array.getElem?_modify, h], ((OnlyB.set H 0 W (.int .i64 n')).trans (OnlyB.set H 1 _ b)).trans (OnlyB.set H 2 _ c)⟩
set_option maxRecDepth 100000
theorem MoR.zero (W : World) (B : Nat) : MoR W B (.agg #[.int .i64 0, .slice none 0 0, .slice none 0 0]) mo0 := by
  have hR : Reads W B 1 none 0 (us []) := by unfold us; exact Reads.none_
  exact ⟨⟨none, 0, none, 0, rfl, hR, ⟨rfl, [], Reads.none_, fun j hj => absurd hj (by simp [mo0])⟩⟩, ⟨by unfold maxLen; decide, by unfold maxLen; decide⟩, ⟨by decide, by decide⟩, fun x hx => absurd hx (by simp [mo0]), fun r hr => absurd hr (by simp [mo0])⟩
theorem ret_cellT {P : Program} {fn : Func} {p u : Tmp} {ty : TypeId} (h : fn.results = #[.cell p ty, .tmp u]) (tmps : Array Value) (w : World) (g : Nat) (t : TypeId) (cs : Array Value) (fr : Nat × Nat) (d : TypeDesc)
    (hp : tmps.getD p undef = .pointer (some ⟨g, 0, none⟩)) (hg : w.heap[g]? = some (.cells cs t fr))
    (hu : P.underlying ty = some d) (hd : (match d with | .struct _ | .array _ _ => true | _ => false) = true) (hi : (P.info? ty).map (·.size) = some cs.size) :
    (results fn tmps).run P w = .ok (.tuple #[.agg cs, tmps.getD u undef]) w := by
  rw [results_cell_tmp h, hp]
  simp [asAddr, Result.andThen, run_loadVar_row w g t ty cs fr d hg hu hd hi]
set_option maxRecDepth 100000
/-- a parameter and a result's cell -/
structure Rs (w wx : World) (n : Int) (v1 v2 : Value) : Prop where
  box : MBox wx w.heap.size n v1 v2
  res : MBox wx (w.heap.size + 1) 0 (.slice none 0 0) (.slice none 0 0)
  below : Below w.heap.size w wx
section
variable {wx wy : World}
theorem Rs.keep {w wx wy : World} {n : Int} {v1 v2 : Value} (h : Rs w wx n v1 v2) (hb : Below wx.heap.size wx wy) : Rs w wy n v1 v2 :=
  ⟨(hb.block _ h.box.lt).trans h.box, (hb.block _ h.res.lt).trans h.res, h.below.trans (hb.mono h.below.size)⟩
end
theorem Rs.made (w : World) (n : Int) (v1 v2 : Value) : Rs w ((w.alloc (.cells #[.int .i64 n, v1, v2] 25)).alloc (.cells #[.int .i64 0, .slice none 0 0, .slice none 0 0] 25)) n v1 v2 := by
  have h := BoxBox w n v1 v2 0 (.slice none 0 0) (.slice none 0 0)
  exact ⟨h.1, h.2.1, h.2.2⟩
section
variable {wx wy : World}
/-- behind the store of the result -/
theorem Rs.fin {w wx : World} {n : Int} {v1 v2 : Value} (h : Rs w wx n v1 v2) (n' : Int) (b c : Value) :
    MBox (((wx.setCell ⟨w.heap.size + 1, 0, none⟩ (.int .i64 n')).setCell ⟨w.heap.size + 1, 1, none⟩ b).setCell ⟨w.heap.size + 1, 2, none⟩ c) (w.heap.size + 1) n' b c ∧
    Below w.heap.size w (((wx.setCell ⟨w.heap.size + 1, 0, none⟩ (.int .i64 n')).setCell ⟨w.heap.size + 1, 1, none⟩ b).setCell ⟨w.heap.size + 1, 2, none⟩ c) ∧
    OnlyB (w.heap.size + 1) wx (((wx.setCell ⟨w.heap.size + 1, 0, none⟩ (.int .i64 n')).setCell ⟨w.heap.size + 1, 1, none⟩ b).setCell ⟨w.heap.size + 1, 2, none⟩ c) := by
  have h3 := h.res.set3 (n' := n') (b := b) (c := c)
  exact ⟨h3.1, h.below.trans (h3.2.below (by omega) (by have := h.res.lt; omega)), h3.2⟩
end
theorem MoF.only {W W' : World} {g lo : Nat} {v : Value} {m : Mo} (h : MoF W lo v m) (ho : OnlyB g W W') (hg : g < lo) : MoF W' lo v m := fun W2 hs hag =>
  h W2 (Nat.le_trans ho.size hs) (fun j h1 h2 => (hag j h1 (Nat.lt_of_lt_of_le h2 ho.size)).trans (ho.block j h2 (by omega)))
theorem MoF.zero (W : World) (lo : Nat) : MoF W lo (.agg #[.int .i64 0, .slice none 0 0, .slice none 0 0]) mo0 := fun W' _ _ => MoR.zero W' _
end Go.Proofs.YtjpmhbnikoggaaaGreatDoor
/- Layer 15: what Close has made so far, and the model that it returns. -/
namespace Go.Proofs.YtjpmhbnikoggaaaGreatDoor
open Go.RowKit Go.Proofs.Ws
set_option maxRecDepth 100000
section
variable {wx wy : World}
theorem ne_PV {g g2 : Nat} {l : List Nat} {vs : List Value} (h : HoldsP wx g l) (h2 : HoldsV wx g2 vs) : g ≠ g2 := fun e => by
  subst e
  obtain ⟨pad, h⟩ := h
  unfold HoldsV at h2
  rw [h] at h2
  injection h2 with h2
  injection h2 with _ h3
  exact absurd h3 (by decide)
theorem ne_PM {g g2 : Nat} {l : List Nat} {n : Int} {v1 v2 : Value} (h : HoldsP wx g l) (h2 : MBox wx g2 n v1 v2) : g ≠ g2 := fun e => by
  subst e
  obtain ⟨pad, h⟩ := h
  unfold MBox at h2
  rw [h] at h2
  injection h2 with h2
  injection h2 with _ h3
  exact absurd h3 (by decide)
theorem ne_VM {g g2 : Nat} {vs : List Value} {n : Int} {v1 v2 : Value} (h : HoldsV wx g vs) (h2 : MBox wx g2 n v1 v2) : g ≠ g2 := fun e => by
  subst e
  unfold HoldsV at h
  unfold MBox at h2
  rw [h] at h2
  injection h2 with h2
  injection h2 with _ h3
  exact absurd h3 (by decide)
end
theorem HoldsP.only {W W' : World} {g0 g : Nat} {l : List Nat} (h : HoldsP W g l) (ho : OnlyB g0 W W') (hg : g ≠ g0) : HoldsP W' g l := by
  have hlt := h.lt
  obtain ⟨pad, h⟩ := h
  exact ⟨pad, (ho.block g hlt hg).trans h⟩
/-- the facts of the model that Close makes -/
def ClV (lo nv : Nat) (val : List Nat) (v : Value) (W : World) : Prop := ∃ A c, v = .slice A nv c ∧ (0 < nv → ∃ g, A = some ⟨g, 0, none⟩ ∧ lo ≤ g ∧ HoldsP W g val)
theorem ClV.below {lo nv : Nat} {val : List Nat} {v : Value} {W W' : World} (h : ClV lo nv val v W) (hb : Below W.heap.size W W') : ClV lo nv val v W' := by
  obtain ⟨A, c, e, h⟩ := h
  exact ⟨A, c, e, fun h0 => by obtain ⟨g, e1, e2, h3⟩ := h h0; exact ⟨g, e1, e2, h3.below hb h3.lt⟩⟩
theorem ClV.only {lo nv g0 : Nat} {val : List Nat} {v : Value} {W W' : World} (h : ClV lo nv val v W) (ho : OnlyB g0 W W') (hg : ∀ g, HoldsP W g val → g ≠ g0) : ClV lo nv val v W' := by
  obtain ⟨A, c, e, h⟩ := h
  exact ⟨A, c, e, fun h0 => by obtain ⟨g, e1, e2, h3⟩ := h h0; exact ⟨g, e1, e2, h3.only ho (hg g h3)⟩⟩
/-- blocks that a closed model under way lies in -/
structure Ck (w wx : World) (n : Int) (v1 v2 : Value) (P GR nv nr : Nat) (VV : Value) (val : List Nat) (LR : List Value) : Prop where
  rs : Rs w wx n v1 v2
  part : MBox wx P n VV (.slice (some ⟨GR, 0, none⟩) nr nr)
  rel : HoldsV wx GR LR
  val : ClV (w.heap.size + 2) nv val VV wx
  lt1 : w.heap.size + 2 ≤ P
  lt2 : w.heap.size + 2 ≤ GR
  len : LR.length = nr
/-- the relations that are closed already -/
def RowsC (W : World) (lo k : Nat) (Q : Nat → List Nat → Prop) (vs : List Value) (a : Nat) : Prop := ∀ j, j < a → ∃ g c C, vs[j]? = some (.slice (some ⟨g, 0, none⟩) k c) ∧ HoldsP W g C ∧ lo ≤ g ∧ Q j C
section
variable {w wx wy : World} {n : Int} {v1 v2 VV : Value} {P GR nv nr k a : Nat} {val : List Nat} {LR : List Value} {Q : Nat → List Nat → Prop}
theorem Ck.below (h : Ck w wx n v1 v2 P GR nv nr VV val LR) (hb : Below wx.heap.size wx wy) : Ck w wy n v1 v2 P GR nv nr VV val LR :=
  ⟨h.rs.keep hb, h.part.below hb h.part.lt, (hb.block _ h.rel.lt).trans h.rel, h.val.below hb, h.lt1, h.lt2, h.len⟩
theorem RowsC.below {lo : Nat} (h : RowsC wx lo k Q LR a) (hb : Below wx.heap.size wx wy) : RowsC wy lo k Q LR a := fun j hj => by
  obtain ⟨g, c, C, e, h1, h2, h3⟩ := h j hj
  exact ⟨g, c, C, e, h1.below hb h1.lt, h2, h3⟩
theorem Ck.step (h : Ck w wx n v1 v2 P GR nv nr VV val LR) (ho : OnlyB GR wx wy) (v : Value) (hv : HoldsV wy GR (LR.set a v)) : Ck w wy n v1 v2 P GR nv nr VV val (LR.set a v) := by
  have h1 := h.rs.box.lt
  have h2 := h.rs.res.lt
  have h3 := h.part.lt
  have e1 := h.lt2
  refine ⟨⟨(ho.block _ h1 (by omega)).trans h.rs.box, (ho.block _ h2 (by omega)).trans h.rs.res, h.rs.below.trans (ho.below (by omega) h.rs.below.size)⟩, (ho.block _ h3 (fun e => ne_VM h.rel h.part e.symm)).trans h.part, hv, h.val.only ho (fun g hg => ne_PV hg h.rel), h.lt1, h.lt2, by rw [List.length_set]; exact h.len⟩
theorem RowsC.step {lo g c : Nat} {C : List Nat} (h : RowsC wx lo k Q LR a) (hr : HoldsV wx GR LR) (ho : OnlyB GR wx wy) (ha : a < LR.length) (hg : HoldsP wy g C) (hlo : lo ≤ g) (hQ : Q a C) : RowsC wy lo k Q (LR.set a (.slice (some ⟨g, 0, none⟩) k c)) (a + 1) := fun j hj => by
  by_cases e : j = a
  · subst e
    exact ⟨g, c, C, List.getElem?_set_self ha, hg, hlo, hQ⟩
  · obtain ⟨g2, c2, C2, h1, h2, h3, h4⟩ := h j (by omega)
    exact ⟨g2, c2, C2, by rw [List.getElem?_set_ne (Ne.symm e)]; exact h1, h2.only ho (ne_PV h2 hr), h3, h4⟩
/-- the model that is returned -/
theorem Ck.fin (h : Ck w wx n v1 v2 P GR nv nr VV val LR) (hr : RowsC wx (w.heap.size + 2) k Q LR nr) (hn : 0 ≤ n ∧ n ≤ 64) (hl : val.length = nv) (hnv : nv ≤ 8) (hnr : nr ≤ 4) (hk : k ≤ 64) (hw : Words val) (hQ : ∀ j C, Q j C → Sh k C) :
    ∃ rel : List (List Nat), rel.length = nr ∧ (∀ j, j < nr → Q j (rel.getD j [])) ∧ MoF wx (w.heap.size + 2) (.agg #[.int .i64 n, VV, .slice (some ⟨GR, 0, none⟩) nr nr]) ⟨n, val, rel⟩ := by
  have hex : ∀ j, ∃ C : List Nat, j < nr → ∃ g c, LR[j]? = some (.slice (some ⟨g, 0, none⟩) k c) ∧ HoldsP wx g C ∧ w.heap.size + 2 ≤ g ∧ Q j C := fun j => by
    by_cases hj : j < nr
    · obtain ⟨g, c, C, h1⟩ := hr j hj
      exact ⟨C, fun _ => ⟨g, c, h1⟩⟩
    · exact ⟨[], fun h => absurd h hj⟩
  obtain ⟨F, hF⟩ : ∃ F : Nat → List Nat, ∀ j, j < nr → ∃ g c, LR[j]? = some (.slice (some ⟨g, 0, none⟩) k c) ∧ HoldsP wx g (F j) ∧ w.heap.size + 2 ≤ g ∧ Q j (F j) := ⟨fun j => Classical.choose (hex j), fun j => Classical.choose_spec (hex j)⟩
  have hget : ∀ j, j < nr → ((List.range nr).map F).getD j [] = F j := fun j hj => by simp [hj]
  refine ⟨(List.range nr).map F, by simp, fun j hj => by rw [hget j hj]; obtain ⟨_, _, _, _, _, h4⟩ := hF j hj; exact h4, fun W' hs hag => ?_⟩
  have keepP : ∀ g l, HoldsP wx g l → w.heap.size + 2 ≤ g → HoldsP W' g l := fun g l hp hg => by
    have hlt := hp.lt
    obtain ⟨pad, hp⟩ := hp
    exact ⟨pad, (hag g hg hlt).trans hp⟩
  have hrel : HoldsV W' GR LR := (hag GR h.lt2 h.rel.lt).trans h.rel
  obtain ⟨A, c, rfl, hval⟩ := h.val
  refine ⟨⟨A, c, some ⟨GR, 0, none⟩, nr, ?_, ?_, ?_⟩, ⟨by show val.length ≤ maxLen; unfold maxLen; omega, by show ((List.range nr).map F).length ≤ maxLen; unfold maxLen; simp; omega⟩, ⟨by show _ ≤ n; omega, by show n < _; omega⟩, hw, fun r hr => ?_⟩
  · show _ = Value.agg #[.int .i64 n, .slice A val.length c, .slice (some ⟨GR, 0, none⟩) ((List.range nr).map F).length nr]
    rw [hl]; simp
  · show Reads W' W'.heap.size 1 A val.length (us val)
    by_cases h0 : 0 < nv
    · obtain ⟨g, rfl, hg, hp⟩ := hval h0
      exact (keepP g val hp hg).reads
    · have e : val = [] := List.eq_nil_of_length_eq_zero (by omega)
      subst e
      exact Reads.none_
  · show UsR W' W'.heap.size (some ⟨GR, 0, none⟩) ((List.range nr).map F).length ((List.range nr).map F)
    refine ⟨rfl, LR, ⟨by have := h.len; simp; omega, fun _ => ⟨_, rfl, hrel.lt, fun j u hu => ?_⟩⟩, fun j hj => ?_⟩
    · rw [addr0]
      have hj : j < LR.length := by
        rcases Nat.lt_or_ge j LR.length with h' | h'
        · exact h'
        · rw [List.getElem?_eq_none h'] at hu; cases hu
      rw [hrel.cell j hj, List.getD_eq_getElem?_getD, hu]; rfl
    · have hj : j < nr := by simpa using hj
      obtain ⟨g, c, h1, h2, h3, h4⟩ := hF j hj
      have hs := hQ j _ h4
      rw [hget j hj, hs.1]
      have hrd := (keepP g _ h2 h3).reads
      rw [hs.1] at hrd
      exact ⟨_, c, h1, hrd, by unfold maxLen; omega⟩
  · obtain ⟨j, hj, rfl⟩ := List.mem_map.1 hr
    obtain ⟨_, _, _, _, _, h4⟩ := hF j (List.mem_range.1 hj)
    exact sh_words hk (hQ j _ h4)
end
end Go.Proofs.YtjpmhbnikoggaaaGreatDoor
/- Layer 15: Close by the program. -/
namespace Go.Proofs.YtjpmhbnikoggaaaGreatDoor
open Go.RowKit Go.Proofs.Ws
set_option maxRecDepth 100000
theorem getq {t : Array Value} {k : Nat} {v : Value} (h : t.getD k undef = v) (hk : k < t.size) : t[k] = v := by
  rw [← h]
  simp [Array.getD, hk]
theorem MBox.put1 {W : World} {H : Nat} {n : Int} {y z b : Value} (h : MBox W H n y z) : MBox (W.setCell ⟨H, 1, none⟩ b) H n b z := by
  unfold MBox at *
  simp [World.setCell, Array.getElem?_modify, h]
theorem OnlyB.of {W W' : World} (g : Nat) (h : Below W.heap.size W W') : OnlyB g W W' := ⟨h.os, h.tape, h.output, h.size, fun j hj _ => h.block j hj⟩
/-- the part's relations before the loop -/
def MkV (lo nr : Nat) (v : Value) (W : World) : Prop := ∃ g, v = .slice (some ⟨g, 0, none⟩) nr nr ∧ lo ≤ g ∧ HoldsV W g (List.replicate nr (.slice none 0 0))
theorem MkV.below {lo nr : Nat} {v : Value} {W W' : World} (h : MkV lo nr v W) (hb : Below W.heap.size W W') : MkV lo nr v W' := by
  obtain ⟨g, e, h1, h2⟩ := h
  exact ⟨g, e, h1, (hb.block _ h2.lt).trans h2⟩
/-- what is known of the values of the region that makes the part -/
def vMk (lo s : Nat) (n : Int) (v1 : Value) (A2 : Option Addr) (c2 nv nr : Nat) (val : List Nat) : Nat → Value → World → Prop
  | 0, v, _ => v = .pointer (some ⟨lo, 0, none⟩)
  | 1, v, _ => v = .int .i64 n
  | 2, v, _ => v = .pointer (some ⟨lo, 1, none⟩)
  | 3, v, _ => v = v1
  | 4, v, W => ClV s nv val v W
  | 5, v, _ => v = .pointer (some ⟨lo, 2, none⟩)
  | 6, v, _ => v = .slice A2 nr c2
  | 7, v, _ => v = .int .i64 (nr : Int)
  | 8, v, W => MkV s nr v W
  | 9, v, W => ∃ x y, v = .agg #[.int .i64 n, x, y] ∧ ClV s nv val x W ∧ MkV s nr y W
  | 10, v, W => ∃ P, v = .pointer (some ⟨P, 0, none⟩) ∧ s ≤ P ∧ MBox W P 0 (.slice none 0 0) (.slice none 0 0)
  | _, _, _ => True
theorem vMk_up {lo s : Nat} {n : Int} {v1 : Value} {A2 : Option Addr} {c2 nv nr : Nat} {val : List Nat} : ∀ i v W W', vMk lo s n v1 A2 c2 nv nr val i v W → Below W.heap.size W W' → vMk lo s n v1 A2 c2 nv nr val i v W'
  | 0, _, _, _, h, _ => h
  | 1, _, _, _, h, _ => h
  | 2, _, _, _, h, _ => h
  | 3, _, _, _, h, _ => h
  | 4, _, _, _, h, hb => ClV.below h hb
  | 5, _, _, _, h, _ => h
  | 6, _, _, _, h, _ => h
  | 7, _, _, _, h, _ => h
  | 8, _, _, _, h, hb => MkV.below h hb
  | 9, _, _, _, ⟨x, y, e, h1, h2⟩, hb => ⟨x, y, e, h1.below hb, h2.below hb⟩
  | 10, _, _, _, ⟨P, e, h1, h2⟩, hb => ⟨P, e, h1, h2.below hb h2.lt⟩
  | _ + 11, _, _, _, _, _ => trivial
/-- what is known of the values of the region that closes one relation -/
def vCl (P GR j k d s n : Nat) (nr : Nat) (Aj D : Option Addr) (cj : Nat) (L : List Int) (l : List Nat) : Nat → Value → World → Prop
  | 0, v, _ => v = .pointer (some ⟨P, 2, none⟩)
  | 1, v, _ => v = .slice (some ⟨GR, 0, none⟩) nr nr
  | 2, v, _ => v = .int .i64 (j : Int)
  | 3, v, _ => v = .slice Aj n cj
  | 4, v, _ => v = .slice D k d
  | 5, v, W => ∃ A c C, IsClo n (CloP n L) l C ∧ v = .slice A n c ∧ OwnL s W A C
  | 6, v, _ => v = .pointer (some ⟨GR, j, none⟩)
  | _, _, _ => True
theorem vCl_up {P GR j k d s n : Nat} {nr : Nat} {Aj D : Option Addr} {cj : Nat} {L : List Int} {l : List Nat} : ∀ i v W W', vCl P GR j k d s n nr Aj D cj L l i v W → Below W.heap.size W W' → vCl P GR j k d s n nr Aj D cj L l i v W'
  | 0, _, _, _, h, _ => h
  | 1, _, _, _, h, _ => h
  | 2, _, _, _, h, _ => h
  | 3, _, _, _, h, _ => h
  | 4, _, _, _, h, _ => h
  | 5, _, _, _, ⟨A, c, C, h1, e, h2⟩, hb => ⟨A, c, C, h1, e, h2.below hb⟩
  | 6, _, _, _, h, _ => h
  | _ + 7, _, _, _, _, _ => trivial
/-- what Close returns -/
def ClosM (m : Mo) (g : Int) (c : Mo) : Prop := if ckE m g = 0 then c.n = m.n ∧ c.val = m.val ∧ c.rel.length = m.rel.length ∧ ∀ j, j < m.rel.length → ClosR m.n.toNat g (m.rel.getD j []) (c.rel.getD j []) else c = mo0
set_option maxHeartbeats 8000000 in
theorem pClose_bad (m : Mo) (v : Value) (g : Int) (w : World) (hM : MoR w w.heap.size v m) (hz : ckE m g ≠ 0) :
    Calls Tryz.prog 76 #[v, .int .i64 g] w fun e w' => ∃ v' c, e = .returned (.tuple #[v', .int .i64 (ckE m g)]) ∧ MoF w' w.heap.size v' c ∧ ClosM m g c ∧ Below w.heap.size w w' := by
  obtain ⟨A1, c1, A2, c2, rfl, hv, hr⟩ := hM.ex
  have HR := Lib.hid (Rs.made w m.n (.slice A1 m.val.length c1) (.slice A2 m.rel.length c2))
  have HC := Lib.hid (fun W (hb : Below w.heap.size w W) => pCk_any m (.agg #[.int .i64 m.n, .slice A1 m.val.length c1, .slice A2 m.rel.length c2]) g W (hM.below hb hb.size))
  have HZ : Hid (ClosM m g mo0) := Lib.hid (by unfold ClosM; rw [if_neg hz])
  have hz1 : (ckE m g != 0) = true := by rw [bne_iff_ne]; exact hz
  clear hM hv hr hz
  generalize ckE m g = er at *
  go_enter Tryz.func76, Tryz.ntmps76
  go_wp2_with fail
  refine (HC.out _ HR.out.below).mono ?_
  rintro e w2 ⟨D, d, rfl, _, hb2⟩
  have HR2 := Lib.hid (HR.out.keep hb2)
  clear hb2
  have y0 := HR2.out.res.c0
  have y1 := HR2.out.res.c1
  have y2 := HR2.out.res.c2
  have f0 := HR2.out.res.free 0
  have f1 := HR2.out.res.free 1
  have f2 := HR2.out.res.free 2
  go_wp2
  have HZ3 := Lib.hid (HR2.out.fin 0 (.slice none 0 0) (.slice none 0 0))
  clear y0 y1 y2 f0 f1 f2
  generalize (((w2.setCell ⟨w.heap.size + 1, 0, none⟩ (.int .i64 0)).setCell ⟨w.heap.size + 1, 1, none⟩ (.slice none 0 0)).setCell ⟨w.heap.size + 1, 2, none⟩ (.slice none 0 0)) = w7 at *
  (try simp only [Exit.inBlock, Exit.then])
  refine bodyPost_ret (ret_cellT rfl _ _ (w.heap.size + 1) _ _ _ _ rfl HZ3.out.1 Tryz.underlying25 rfl (by kernel_rfl)) rfl ?_
  exact ⟨_, mo0, rfl, MoF.zero _ _, HZ.out, HZ3.out.2.1⟩
set_option maxHeartbeats 8000000 in
theorem pClose_ok (m : Mo) (v : Value) (g : Int) (w : World) (hM : MoR w w.heap.size v m) (hT : Tab w) (hz : ckE m g = 0) :
    Calls Tryz.prog 76 #[v, .int .i64 g] w fun e w' => ∃ v' c, e = .returned (.tuple #[v', .int .i64 (ckE m g)]) ∧ MoF w' w.heap.size v' c ∧ ClosM m g c ∧ Below w.heap.size w w' := by
  have hok : OkM m.n.toNat m ∧ ckL m g = proL g := by
    unfold ckE at hz
    by_cases h : chkM m = 0
    · exact ⟨chkM_ok h, by unfold ckL; rw [if_pos h]⟩
    · rw [if_neg h] at hz; exact absurd hz h
  obtain ⟨A1, c1, A2, c2, rfl, hv, hr⟩ := hM.ex
  have HR := Lib.hid (Rs.made w m.n (.slice A1 m.val.length c1) (.slice A2 m.rel.length c2))
  have HC := Lib.hid (fun W (hb : Below w.heap.size w W) => pCk_any m (.agg #[.int .i64 m.n, .slice A1 m.val.length c1, .slice A2 m.rel.length c2]) g W (hM.below hb hb.size))
  have HQ : Hid (∀ rel : List (List Nat), rel.length = m.rel.length → (∀ j, j < m.rel.length → ClosR m.n.toNat g (m.rel.getD j []) (rel.getD j [])) → ClosM m g ⟨m.n, m.val, rel⟩) := Lib.hid (fun rel h1 h2 => by unfold ClosM; rw [if_pos hz]; exact ⟨rfl, rfl, h1, h2⟩)
  have HOK := Lib.hid hok.1
  have HV := Lib.hid hv
  have HRR := Lib.hid hr
  have HW := Lib.hid hM.wval
  have HT := Lib.hid hT
  have hnv : m.val.length ≤ 8 := hok.1.facts
  have hnr : m.rel.length ≤ 4 := hok.1.agents
  have hk3 := proL_len g
  rw [hok.2, hz] at HC
  rw [hz]
  clear hM hv hr hT hz hok
  generalize hnve : m.val.length = nv at *
  generalize hnre : m.rel.length = nr at *
  have HNV := Lib.hid hnve
  have HNR := Lib.hid hnre
  clear hnve hnre
  go_enter Tryz.func76, Tryz.ntmps76
  go_wp2_with fail
  refine (HC.out _ HR.out.below).mono ?_
  rintro e w2 ⟨D, d, rfl, hL, hb2⟩
  have HL := Lib.hid hL
  have HR2 := Lib.hid (HR.out.keep hb2)
  have HLO : Hid (w.heap.size + 2 ≤ w2.heap.size) := Lib.hid (by have := HR.out.res.lt; have := hb2.size; omega)
  have HCL := Lib.hid (fun W (hb : Below w2.heap.size w2 W) => clone_any m.val A1 nv c1 W (((HV.out.below HR2.out.below).more (by have := HR2.out.below.size; omega)).below hb |>.more hb.size) (by omega))
  clear hb2 hL
  go_wp2
  refine wp_region_last (vMk w.heap.size w2.heap.size m.n (.slice A1 nv c1) A2 c2 nv nr m.val) [21, 22, 23, 24, 25, 26, 27, 28, 29, 30, 8] 11 56 (fun W => Below w2.heap.size w2 W) (fun vs W => Below w2.heap.size w2 W ∧ ∃ P VV GR, w2.heap.size ≤ GR ∧ vs.getD 10 undef = .pointer (some ⟨P, 0, none⟩) ∧ Ck w W m.n (.slice A1 nv c1) (.slice A2 nr c2) P GR nv nr VV m.val (List.replicate nr (.slice none 0 0))) (fun W W' => Below W.heap.size W W') rfl rfl rfl (by decide) (by decide) (by kernel_rfl) (by kernel_rfl) (by kernel_rfl) (by kernel_rfl) (Below.refl _ w2).drew vMk_up (fun W W' h h2 => h.trans (h2.mono h.size)) ?hop ?hL ?fin
  case hop =>
    refine (lt_more (lt_more (lt_more (lt_more (lt_more (lt_more (lt_more (lt_more (lt_more (lt_more (lt_more (lt_none _) ?s0) ?s1) ?s2) ?s3) ?s4) ?s5) ?s6) ?s7) ?s8) ?s9) ?s10)
    case s0 =>
      intro o ho a W hS ⟨hsz, hdf, hfr, hdep⟩ K hK
      obtain ⟨tm, df⟩ := a
      have hdf : df = [] := hdf
      subst hdf
      have ho := Option.some.inj ho
      subst ho
      have hsz : tm.size = 56 := hsz
      have t2 : tm.getD 2 undef = .pointer (some ⟨w.heap.size, 0, none⟩) := hfr 2 (by decide)
      clear hdep hfr
      go_simp
      exact hK _ W ⟨Below.refl _ W, rfl⟩
    case s1 =>
      intro o ho a W hS ⟨hsz, hdf, hfr, hdep⟩ K hK
      obtain ⟨tm, df⟩ := a
      have hdf : df = [] := hdf
      subst hdf
      have ho := Option.some.inj ho
      subst ho
      have hsz : tm.size = 56 := hsz
      have t21 : tm.getD 21 undef = .pointer (some ⟨w.heap.size, 0, none⟩) := hdep ⟨0, .data⟩ (by simp) (by rfl) (by decide)
      have bx := HR2.out.keep hS
      have b0 := bx.box.c0
      have b1 := bx.box.c1
      have b2 := bx.box.c2
      clear hdep hfr
      go_simp
      exact hK _ W ⟨Below.refl _ W, rfl⟩
    case s2 =>
      intro o ho a W hS ⟨hsz, hdf, hfr, hdep⟩ K hK
      obtain ⟨tm, df⟩ := a
      have hdf : df = [] := hdf
      subst hdf
      have ho := Option.some.inj ho
      subst ho
      have hsz : tm.size = 56 := hsz
      have t2 : tm.getD 2 undef = .pointer (some ⟨w.heap.size, 0, none⟩) := hfr 2 (by decide)
      clear hdep hfr
      go_simp
      exact hK _ W ⟨Below.refl _ W, rfl⟩
    case s3 =>
      intro o ho a W hS ⟨hsz, hdf, hfr, hdep⟩ K hK
      obtain ⟨tm, df⟩ := a
      have hdf : df = [] := hdf
      subst hdf
      have ho := Option.some.inj ho
      subst ho
      have hsz : tm.size = 56 := hsz
      have t23 : tm.getD 23 undef = .pointer (some ⟨w.heap.size, 1, none⟩) := hdep ⟨2, .data⟩ (by simp) (by rfl) (by decide)
      have bx := HR2.out.keep hS
      have b0 := bx.box.c0
      have b1 := bx.box.c1
      have b2 := bx.box.c2
      clear hdep hfr
      go_simp
      exact hK _ W ⟨Below.refl _ W, rfl⟩
    case s4 =>
      intro o ho a W hS ⟨hsz, hdf, hfr, hdep⟩ K hK
      obtain ⟨tm, df⟩ := a
      have hdf : df = [] := hdf
      subst hdf
      have ho := Option.some.inj ho
      subst ho
      have hsz : tm.size = 56 := hsz
      have t24 : tm.getD 24 undef = .slice A1 nv c1 := hdep ⟨3, .data⟩ (by simp) (by rfl) (by decide)
      clear hdep hfr
      go_simp
      refine (HCL.out W hS).mono ?_
      rintro e W9 ⟨A, c, rfl, hg, hb⟩
      exact hK _ W9 ⟨hb, A, c, rfl, fun h0 => by obtain ⟨g9, e1, e2, e3⟩ := hg h0; exact ⟨g9, e1, Nat.le_trans hS.size e2, e3⟩⟩
    case s5 =>
      intro o ho a W hS ⟨hsz, hdf, hfr, hdep⟩ K hK
      obtain ⟨tm, df⟩ := a
      have hdf : df = [] := hdf
      subst hdf
      have ho := Option.some.inj ho
      subst ho
      have hsz : tm.size = 56 := hsz
      have t2 : tm.getD 2 undef = .pointer (some ⟨w.heap.size, 0, none⟩) := hfr 2 (by decide)
      clear hdep hfr
      go_simp
      exact hK _ W ⟨Below.refl _ W, rfl⟩
    case s6 =>
      intro o ho a W hS ⟨hsz, hdf, hfr, hdep⟩ K hK
      obtain ⟨tm, df⟩ := a
      have hdf : df = [] := hdf
      subst hdf
      have ho := Option.some.inj ho
      subst ho
      have hsz : tm.size = 56 := hsz
      have t26 : tm.getD 26 undef = .pointer (some ⟨w.heap.size, 2, none⟩) := hdep ⟨5, .data⟩ (by simp) (by rfl) (by decide)
      have bx := HR2.out.keep hS
      have b0 := bx.box.c0
      have b1 := bx.box.c1
      have b2 := bx.box.c2
      clear hdep hfr
      go_simp
      exact hK _ W ⟨Below.refl _ W, rfl⟩
    case s7 =>
      intro o ho a W hS ⟨hsz, hdf, hfr, hdep⟩ K hK
      obtain ⟨tm, df⟩ := a
      have hdf : df = [] := hdf
      subst hdf
      have ho := Option.some.inj ho
      subst ho
      have hsz : tm.size = 56 := hsz
      have t27 : tm.getD 27 undef = .slice A2 nr c2 := hdep ⟨6, .data⟩ (by simp) (by rfl) (by decide)
      clear hdep hfr
      go_simp
      exact hK _ W ⟨Below.refl _ W, rfl⟩
    case s8 =>
      intro o ho a W hS ⟨hsz, hdf, hfr, hdep⟩ K hK
      obtain ⟨tm, df⟩ := a
      have hdf : df = [] := hdf
      subst hdf
      have ho := Option.some.inj ho
      subst ho
      have hsz : tm.size = 56 := hsz
      have t28 : tm.getD 28 undef = .int .i64 (nr : Int) := hdep ⟨7, .data⟩ (by simp) (by rfl) (by decide)
      clear hdep hfr
      have hmk := makeV W nr (by omega)
      go_simp
      exact hK _ _ ⟨(Below.refl _ W).alloc (Nat.le_refl _) _, W.heap.size, rfl, hS.size, heap_alloc_new W _⟩
    case s9 =>
      intro o ho a W hS ⟨hsz, hdf, hfr, hdep⟩ K hK
      obtain ⟨tm, df⟩ := a
      have hdf : df = [] := hdf
      subst hdf
      have ho := Option.some.inj ho
      subst ho
      have hsz : tm.size = 56 := hsz
      have t22 : tm.getD 22 undef = .int .i64 m.n := hdep ⟨1, .data⟩ (by simp) (by rfl) (by decide)
      have hd4 : ClV w2.heap.size nv m.val (tm.getD 25 undef) W := hdep ⟨4, .data⟩ (by simp) (by rfl) (by decide)
      obtain ⟨A25, c25, t25, hd4⟩ := hd4
      have hd8 : MkV w2.heap.size nr (tm.getD 29 undef) W := hdep ⟨8, .data⟩ (by simp) (by rfl) (by decide)
      obtain ⟨GR29, t29, hd8⟩ := hd8
      clear hdep hfr
      have u22 := getq t22 (by omega)
      have u25 := getq t25 (by omega)
      have u29 := getq t29 (by omega)
      go_simp
      exact hK _ W ⟨Below.refl _ W, _, _, rfl, ⟨_, _, rfl, hd4⟩, ⟨_, rfl, hd8⟩⟩
    case s10 =>
      intro o ho a W hS ⟨hsz, hdf, hfr, hdep⟩ K hK
      obtain ⟨tm, df⟩ := a
      have hdf : df = [] := hdf
      subst hdf
      have ho := Option.some.inj ho
      subst ho
      have hsz : tm.size = 56 := hsz
      clear hdep hfr
      go_simp
      exact hK _ _ ⟨(Below.refl _ W).alloc (Nat.le_refl _) _, W.heap.size, rfl, hS.size, heap_alloc_new W _⟩
  case hL =>
    intro o ho a W hS ⟨hsz, hdf, hfr, hdep⟩ hall K hK
    obtain ⟨tm, df⟩ := a
    have hdf : df = [] := hdf
    subst hdf
    have ho := Option.some.inj ho
    subst ho
    have hsz : tm.size = 56 := hsz
    obtain ⟨P, t8, hP, hd10⟩ := (hall 10 (by decide) : ∃ P, tm.getD 8 undef = .pointer (some ⟨P, 0, none⟩) ∧ w2.heap.size ≤ P ∧ MBox W P 0 (.slice none 0 0) (.slice none 0 0))
    have t8 : tm.getD 8 undef = .pointer (some ⟨P, 0, none⟩) := t8
    obtain ⟨x30, y30, t30, hd9, hd9m⟩ := (hall 9 (by decide) : ∃ x y, tm.getD 30 undef = .agg #[.int .i64 m.n, x, y] ∧ ClV w2.heap.size nv m.val x W ∧ MkV w2.heap.size nr y W)
    have t30 : tm.getD 30 undef = .agg #[.int .i64 m.n, x30, y30] := t30
    obtain ⟨A30, c30, rfl, hcl⟩ := hd9
    obtain ⟨GR, rfl, hG, hGV⟩ := hd9m
    have y0 := hd10.c0
    have y1 := hd10.c1
    have y2 := hd10.c2
    have f0 := hd10.free 0
    have f1 := hd10.free 1
    have f2 := hd10.free 2
    have u8 := getq t8 (by omega)
    have u30 := getq t30 (by omega)
    clear hdep hfr
    go_simp
    have hz3 := hd10.set3 (n' := m.n) (b := .slice A30 nv c30) (c := .slice (some ⟨GR, 0, none⟩) nr nr)
    have hb2 := HR2.out.keep hS
    have hlo := HLO.out
    refine hK undef _ ⟨?_, P, _, GR, hG, t8, ⟨⟨(hz3.2.block _ hb2.box.lt (by omega)).trans hb2.box, (hz3.2.block _ hb2.res.lt (by omega)).trans hb2.res, hb2.below.trans (hz3.2.below (by omega) (by have := hb2.box.lt; omega))⟩, hz3.1, (hz3.2.block _ hGV.lt (ne_VM hGV hd10)).trans hGV, ?_, by omega, by omega, by simp⟩⟩
    · exact hS.trans (hz3.2.below hP hS.size)
    exact ⟨A30, c30, rfl, fun h0 => by obtain ⟨g9, e1, e2, e3⟩ := hcl h0; exact ⟨g9, e1, by omega, e3.only hz3.2 (ne_PM e3 hd10)⟩⟩
  case fin =>
    intro vs W hvl ⟨hb3, P, VV, GR, hGR, hv10, hck⟩
    have HK := Lib.hid hck
    have HB3 := Lib.hid hb3
    have HGR := Lib.hid hGR
    clear hck hb3 hGR
    simp only [show List.range 11 = [0, 1, 2, 3, 4, 5, 6, 7, 8, 9, 10] from rfl, List.map, fillD, hv10]
    generalize vs.getD 0 undef = y0
    generalize vs.getD 1 undef = y1
    generalize vs.getD 2 undef = y2
    generalize vs.getD 3 undef = y3
    generalize vs.getD 4 undef = y4
    generalize vs.getD 5 undef = y5
    generalize vs.getD 6 undef = y6
    generalize vs.getD 7 undef = y7
    generalize vs.getD 8 undef = y8
    generalize vs.getD 9 undef = y9
    generalize W = w3 at *
    have b2 := HK.out.rs.box.c2
    go_simp
    go_wp2
    clear b2
    have hN : ∃ q : Nat, m.n.toNat = q ∧ m.n = (q : Int) ∧ 1 ≤ q ∧ q ≤ 64 := ⟨_, rfl, by have := HOK.out.num; omega, HOK.out.pos, HOK.out.le⟩
    obtain ⟨q, hq, hqn, hq1, hq64⟩ := hN
    have HSH : Hid (∀ j, j < nr → Sh q (m.rel.getD j [])) := Lib.hid (fun j hj => by
      have hm : m.rel.getD j [] ∈ m.rel := getD_mem' (by have := HNR.out; omega)
      exact ⟨by rw [HOK.out.len _ hm, hq], fun x hx => by have := HOK.out.rel _ hm x hx; rwa [hq] at this⟩)
    have HQN := Lib.hid hq
    have HMN := Lib.hid hqn
    have hpe := HL.out.int_len
    generalize hPL : proL g = PL at *
    have HPL := Lib.hid hPL
    clear hq hqn hPL hpe
    generalize hkk : PL.length = k at *
    clear hkk
    have HT2 := Lib.hid (fun W (hb : Below w.heap.size w W) => HT.out.below hb)
    have HL2 : Hid (∀ W, Below w2.heap.size w2 W → Reads W W.heap.size 1 D k (ints PL)) := Lib.hid (fun W hb => (HL.out.below hb).more hb.size)
    go_loopw [9, 10, 34] (fun _ _ i wr => ∃ (a : Nat) (LR : List Value), a ≤ nr ∧ i = .int .i64 (a : Int) ∧ Hid (Ck w wr m.n (.slice A1 nv c1) (.slice A2 nr c2) P GR nv nr VV m.val LR) ∧ Hid (Below w2.heap.size w2 wr) ∧ Hid (RowsC wr (w.heap.size + 2) q (fun j C => ClosR q g (m.rel.getD j []) C) LR a)) (fun _ _ i _ => nr - (intOf i).toNat)
    case atStart => exact ⟨0, _, Nat.zero_le _, rfl, HK, HB3, Lib.hid (fun j hj => absurd hj (by omega))⟩
    case round =>
      obtain ⟨a, LR, ha, rfl, HKa, HBa, HRa⟩ := hrel
      by_cases hlt : a < nr
      · obtain ⟨ad, Aj, cj, rfl, hb, hc0, hrj, hlj⟩ := HRR.out.at_ hlt
        have hsh := HSH.out a hlt
        have hc := (HKa.out.rs.below.cell (p := ad.add a) (by rw [block_of_add]; exact hb)).trans hc0
        rw [hsh.1] at hc hrj
        obtain ⟨l, hl⟩ : ∃ l, m.rel.getD a [] = l := ⟨_, rfl⟩
        rw [hl] at hsh hrj
        have HLE := Lib.hid hl
        have HS1 := Lib.hid hsh
        have HCO := Lib.hid (fun W (hb : Below wr.heap.size wr W) => pClosure_any l Aj q cj PL D k d W (((hrj.below (HKa.out.rs.below.trans (hb.mono HKa.out.rs.below.size))).more ((HKa.out.rs.below.trans (hb.mono HKa.out.rs.below.size)).size))) hsh hq64 (HT2.out W (HKa.out.rs.below.trans (hb.mono HKa.out.rs.below.size))) (HL2.out W (HBa.out.trans (hb.mono HBa.out.size))) (by omega) (by omega))
        clear hc0 hb hrj hlj hsh hl
        go_wp2
        clear hc
        refine wp_region_last (vCl P GR a k d wr.heap.size q nr Aj D cj PL l) [39, 40, 41, 42, 43, 44, 45] 7 56 (fun W => Below wr.heap.size wr W) (fun vs W => ∃ g9 c9 C, IsClo q (CloP q PL) l C ∧ wr.heap.size ≤ g9 ∧ HoldsP W g9 C ∧ HoldsV W GR (LR.set a (.slice (some ⟨g9, 0, none⟩) q c9)) ∧ OnlyB GR wr W) (fun W W' => Below W.heap.size W W') rfl rfl rfl (by decide) (by decide) (by kernel_rfl) (by kernel_rfl) (by kernel_rfl) (by kernel_rfl) (Below.refl _ wr).drew vCl_up (fun W W' h h2 => h.trans (h2.mono h.size)) ?hop ?hL ?fin
        case hop =>
          refine (lt_more (lt_more (lt_more (lt_more (lt_more (lt_more (lt_more (lt_none _) ?s0) ?s1) ?s2) ?s3) ?s4) ?s5) ?s6)
          case s0 =>
            intro o ho a W hS ⟨hsz, hdf, hfr, hdep⟩ K hK
            obtain ⟨tm, df⟩ := a
            have hdf : df = [] := hdf
            subst hdf
            have ho := Option.some.inj ho
            subst ho
            have hsz : tm.size = 56 := hsz
            have t8 : tm.getD 8 undef = .pointer (some ⟨P, 0, none⟩) := hfr 8 (by decide)
            clear hdep hfr
            go_simp
            exact hK _ W ⟨Below.refl _ W, rfl⟩
          case s1 =>
            intro o ho a W hS ⟨hsz, hdf, hfr, hdep⟩ K hK
            obtain ⟨tm, df⟩ := a
            have hdf : df = [] := hdf
            subst hdf
            have ho := Option.some.inj ho
            subst ho
            have hsz : tm.size = 56 := hsz
            have t39 : tm.getD 39 undef = .pointer (some ⟨P, 2, none⟩) := hdep ⟨0, .data⟩ (by simp) (by rfl) (by decide)
            have p2 := (HKa.out.below hS).part.c2
            clear hdep hfr
            go_simp
            exact hK _ W ⟨Below.refl _ W, rfl⟩
          case s2 =>
            intro o ho a W hS ⟨hsz, hdf, hfr, hdep⟩ K hK
            obtain ⟨tm, df⟩ := a
            have hdf : df = [] := hdf
            subst hdf
            have ho := Option.some.inj ho
            subst ho
            have hsz : tm.size = 56 := hsz
            have t9 : tm.getD 9 undef = .int .i64 (a : Int) := hfr 9 (by decide)
            clear hdep hfr
            go_simp
            exact hK _ W ⟨Below.refl _ W, rfl⟩
          case s3 =>
            intro o ho a W hS ⟨hsz, hdf, hfr, hdep⟩ K hK
            obtain ⟨tm, df⟩ := a
            have hdf : df = [] := hdf
            subst hdf
            have ho := Option.some.inj ho
            subst ho
            have hsz : tm.size = 56 := hsz
            have t10 : tm.getD 10 undef = .slice Aj q cj := hfr 10 (by decide)
            clear hdep hfr
            go_simp
            exact hK _ W ⟨Below.refl _ W, rfl⟩
          case s4 =>
            intro o ho a W hS ⟨hsz, hdf, hfr, hdep⟩ K hK
            obtain ⟨tm, df⟩ := a
            have hdf : df = [] := hdf
            subst hdf
            have ho := Option.some.inj ho
            subst ho
            have hsz : tm.size = 56 := hsz
            have t6 : tm.getD 6 undef = .slice D k d := hfr 6 (by decide)
            clear hdep hfr
            go_simp
            exact hK _ W ⟨Below.refl _ W, rfl⟩
          case s5 =>
            intro o ho a W hS ⟨hsz, hdf, hfr, hdep⟩ K hK
            obtain ⟨tm, df⟩ := a
            have hdf : df = [] := hdf
            subst hdf
            have ho := Option.some.inj ho
            subst ho
            have hsz : tm.size = 56 := hsz
            have t42 : tm.getD 42 undef = .slice Aj q cj := hdep ⟨3, .data⟩ (by simp) (by rfl) (by decide)
            have t43 : tm.getD 43 undef = .slice D k d := hdep ⟨4, .data⟩ (by simp) (by rfl) (by decide)
            clear hdep hfr
            go_simp
            refine (HCO.out W hS).mono ?_
            rintro e W9 ⟨A9, c9, C, hC, rfl, hO, hb⟩
            exact hK _ W9 ⟨hb, A9, c9, C, hC, rfl, hO.mono hS.size⟩
          case s6 =>
            intro o ho a W hS ⟨hsz, hdf, hfr, hdep⟩ K hK
            obtain ⟨tm, df⟩ := a
            have hdf : df = [] := hdf
            subst hdf
            have ho := Option.some.inj ho
            subst ho
            have hsz : tm.size = 56 := hsz
            have t40 : tm.getD 40 undef = .slice (some ⟨GR, 0, none⟩) nr nr := hdep ⟨1, .data⟩ (by simp) (by rfl) (by decide)
            have t41 : tm.getD 41 undef = .int .i64 (a : Int) := hdep ⟨2, .data⟩ (by simp) (by rfl) (by decide)
            clear hdep hfr
            have u40 := getq t40 (by omega)
            have u41 := getq t41 (by omega)
            go_simp
            exact hK _ W ⟨Below.refl _ W, rfl⟩
        case hL =>
          intro o ho a W hS ⟨hsz, hdf, hfr, hdep⟩ hall K hK
          obtain ⟨tm, df⟩ := a
          have hdf : df = [] := hdf
          subst hdf
          have ho := Option.some.inj ho
          subst ho
          have hsz : tm.size = 56 := hsz
          have t45 : tm.getD 45 undef = .pointer (some ⟨GR, a, none⟩) := hall 6 (by decide)
          obtain ⟨A9, c9, C, hC, t44, hO⟩ := (hall 5 (by decide) : ∃ A c C, IsClo q (CloP q PL) l C ∧ tm.getD 44 undef = .slice A q c ∧ OwnL wr.heap.size W A C)
          have t44 : tm.getD 44 undef = .slice A9 q c9 := t44
          obtain ⟨g9, rfl, hg9, hP9⟩ := hO
          have hKW := HKa.out.below hS
          have hfr := hKW.rel.free a
          have hcr := hKW.rel.cell a (by rw [hKW.len]; exact hlt)
          have u45 := getq t45 (by omega)
          have u44 := getq t44 (by omega)
          clear hdep
          go_simp
          have hob := OnlyB.set GR a W (.slice (some ⟨g9, 0, none⟩) q c9)
          exact hK undef _ ⟨g9, c9, C, hC, hg9, hP9.only hob (ne_PV hP9 hKW.rel), hKW.rel.put a _, (OnlyB.of GR hS).trans hob⟩
        case fin =>
          intro vs W hvl ⟨g9, c9, C, hC, hg9, hP9, hV9, hO9⟩
          have HC9 := Lib.hid hC
          have HP9 := Lib.hid hP9
          have HV9 := Lib.hid hV9
          have HO9 := Lib.hid hO9
          have HG9 := Lib.hid hg9
          clear hC hP9 hV9 hO9 hg9
          simp only [show List.range 7 = [0, 1, 2, 3, 4, 5, 6] from rfl, List.map, fillD]
          generalize vs.getD 0 undef = z0
          generalize vs.getD 1 undef = z1
          generalize vs.getD 2 undef = z2
          generalize vs.getD 3 undef = z3
          generalize vs.getD 4 undef = z4
          generalize vs.getD 5 undef = z5
          generalize vs.getD 6 undef = z6
          go_simp
          have HKW := Lib.hid (HKa.out.step HO9.out _ HV9.out)
          have hLW : Reads W W.heap.size 1 D k (ints PL) := HL2.out W (HBa.out.trans (HO9.out.below HGR.out HBa.out.size))
          have HCT := Lib.hid (containsI_any PL 1 D k d W hLW (by omega))
          clear hLW
          by_cases hs1 : (1 : Int) ∈ PL
          · rw [decide_eq_true hs1] at HCT
            have HCLO : Hid (ClosR q g (m.rel.getD a []) (serL C)) := Lib.hid ⟨C, by rw [HLE.out, HPL.out]; exact HC9.out, by unfold serIf; rw [HPL.out, if_pos hs1]⟩
            go_wp2_with fail
            refine (HCT.out).mono ?_
            rintro e w5 ⟨rfl, rfl⟩
            have hal := HKa.out.len
            have p2 := HKW.out.part.c2
            have hcr := HV9.out.cell a (by rw [List.length_set, hal]; exact hlt)
            have hset : (LR.set a (.slice (some ⟨g9, 0, none⟩) q c9)).getD a undef = .slice (some ⟨g9, 0, none⟩) q c9 := by rw [List.getD_eq_getElem?_getD, List.getElem?_set_self (by rw [hal]; exact hlt)]; rfl
            rw [hset] at hcr
            clear hset hal
            have HAD := Lib.hid (addLoops_any C g9 q c9 W HP9.out HC9.out.sh.1 hq64)
            go_wp2_with fail
            refine (HAD.out).mono ?_
            rintro e w6 ⟨rfl, hP6, hbb⟩
            have hne := ne_PV HP9.out HV9.out
            have HO6 : Hid (OnlyB GR wr w6) := Lib.hid ⟨hbb.os.trans HO9.out.os, hbb.tape.trans HO9.out.tape, hbb.output.trans HO9.out.output, Nat.le_trans HO9.out.size hbb.size, fun j hj hg => (hbb.block j (Nat.lt_of_lt_of_le hj HO9.out.size) (by have := HG9.out; omega)).trans (HO9.out.block j hj hg)⟩
            have HV6 : Hid (HoldsV w6 GR (LR.set a (.slice (some ⟨g9, 0, none⟩) q c9))) := Lib.hid ((hbb.block GR HV9.out.lt hne.symm).trans HV9.out)
            have HP6 := Lib.hid hP6
            have HR6 := Lib.hid (HRa.out.step (k := q) (c := c9) HKa.out.rel HO6.out (by rw [HKa.out.len]; exact hlt) HP6.out (by have := HG9.out; have := HLO.out; have := HKa.out.rs.res.lt; omega) HCLO.out)
            have HK6 := Lib.hid (HKa.out.step HO6.out _ HV6.out)
            clear hP6 hbb hne p2 hcr
            go_wp2
            go_roundw
            case rel => exact ⟨a + 1, _, by omega, by go_num, HK6, Lib.hid (HBa.out.trans (HO6.out.below HGR.out HBa.out.size)), HR6⟩
            case measure => first | (simp [intOf]; done) | (simp [intOf]; omega)
          · rw [decide_eq_false hs1] at HCT
            have HCLO : Hid (ClosR q g (m.rel.getD a []) C) := Lib.hid ⟨C, by rw [HLE.out, HPL.out]; exact HC9.out, by unfold serIf; rw [HPL.out, if_neg hs1]⟩
            go_wp2_with fail
            refine (HCT.out).mono ?_
            rintro e w5 ⟨rfl, rfl⟩
            have HR6 := Lib.hid (HRa.out.step (k := q) (c := c9) HKa.out.rel HO9.out (by rw [HKa.out.len]; exact hlt) HP9.out (by have := HG9.out; have := HLO.out; have := HKa.out.rs.res.lt; omega) HCLO.out)
            go_wp2
            go_roundw
            case rel => exact ⟨a + 1, _, by omega, by go_num, HKW, Lib.hid (HBa.out.trans (HO9.out.below HGR.out HBa.out.size)), HR6⟩
            case measure => first | (simp [intOf]; done) | (simp [intOf]; omega)
      · obtain rfl : nr = a := by omega
        obtain ⟨rel, hrl, hrq, hmo⟩ := HKa.out.fin HRa.out (by have := HMN.out; omega) HNV.out hnv hnr hq64 HW.out (fun j C h => h.sh)
        have HQ2 : Hid (ClosM m g ⟨m.n, m.val, rel⟩) := Lib.hid (HQ.out rel hrl (by rw [HQN.out]; exact hrq))
        have HMO := Lib.hid hmo
        obtain ⟨A30, c30, rfl, _⟩ := HKa.out.val
        clear hrl hrq hmo
        have p0 := HKa.out.part.c0
        have p1 := HKa.out.part.c1
        have p2 := HKa.out.part.c2
        have y0 := HKa.out.rs.res.c0
        have y1 := HKa.out.rs.res.c1
        have y2 := HKa.out.rs.res.c2
        have f0 := HKa.out.rs.res.free 0
        have f1 := HKa.out.rs.res.free 1
        have f2 := HKa.out.rs.res.free 2
        go_wp2
        have HZ3 := Lib.hid (HKa.out.rs.fin m.n (.slice A30 nv c30) (.slice (some ⟨GR, 0, none⟩) nr nr))
        clear y0 y1 y2 f0 f1 f2 p0 p1 p2
        generalize (((wr.setCell ⟨w.heap.size + 1, 0, none⟩ (.int .i64 m.n)).setCell ⟨w.heap.size + 1, 1, none⟩ (.slice A30 nv c30)).setCell ⟨w.heap.size + 1, 2, none⟩ (.slice (some ⟨GR, 0, none⟩) nr nr)) = w7 at *
        (try simp only [Exit.inBlock, Exit.then])
        refine bodyPost_ret (ret_cellT rfl _ _ (w.heap.size + 1) _ _ _ _ rfl HZ3.out.1 Tryz.underlying25 rfl (by kernel_rfl)) rfl ?_
        exact ⟨_, _, rfl, (HMO.out.only HZ3.out.2.2 (by omega)).mono (by omega), HQ2.out, HZ3.out.2.1⟩
theorem pClose_any (m : Mo) (v : Value) (g : Int) (w : World) (hM : MoR w w.heap.size v m) (hT : Tab w) :
    Calls Tryz.prog 76 #[v, .int .i64 g] w fun e w' => ∃ v' c, e = .returned (.tuple #[v', .int .i64 (ckE m g)]) ∧ MoF w' w.heap.size v' c ∧ ClosM m g c ∧ Below w.heap.size w w' := by
  by_cases hz : ckE m g = 0
  · exact pClose_ok m v g w hM hT hz
  · exact pClose_bad m v g w hM hz
end Go.Proofs.YtjpmhbnikoggaaaGreatDoor
/- Layer 15: whether a world leads to another one, by the program. -/
namespace Go.Proofs.YtjpmhbnikoggaaaGreatDoor
open Go.RowKit Go.Proofs.Ws
set_option maxRecDepth 100000
theorem wIs_any (k : Nat) (w : World) (h : k < 64) : Calls Tryz.prog 114 #[.int .i64 (k : Int)] w fun e w' => e = .returned (.bool true) ∧ w = w' := by
  have d : decide ((k : Int) < 64) = true := decide_eq_true (by omega)
  go_enter Tryz.func114, Tryz.ntmps114
  go_wp2
  go_ret
  exact ⟨rfl, rfl⟩
theorem wOnly_any (k : Nat) (w : World) (h : k < 64) : Calls Tryz.prog 115 #[.int .i64 (k : Int)] w fun e w' => e = .returned (.int .u64 (p2 k : Int)) ∧ w = w' := by
  go_enter Tryz.func115, Tryz.ntmps115
  go_wp2
  go_ret
  exact ⟨ret_u64 (wrap_pow k h), rfl⟩
theorem wHas_any (x k : Nat) (w : World) (hx : x < 18446744073709551616) (h : k < 64) : Calls Tryz.prog 66 #[.int .u64 (x : Int), .int .i64 (k : Int)] w fun e w' => e = .returned (.bool (x.testBit k)) ∧ w = w' := by
  have HI := Lib.hid (fun W => wIs_any k W h)
  have HO := Lib.hid (fun W => wOnly_any k W h)
  have ha := and_pow x k hx h
  generalize x.testBit k = b at *
  generalize p2 k = pk at *
  clear hx
  go_enter Tryz.func66, Tryz.ntmps66
  go_wp2_with fail
  refine (HI.out _).mono ?_
  rintro e w1 ⟨rfl, rfl⟩
  go_wp2_with fail
  refine (HO.out _).mono ?_
  rintro e w1 ⟨rfl, rfl⟩
  go_wp2
  go_ret
  exact ⟨rfl, rfl⟩
theorem leads_any (l : List Nat) (A : Option Addr) (n c i k : Nat) (w : World) (hR : Reads w w.heap.size 1 A n (us l)) (hw : Words l) (hi : i < n) (hk : k < 64) :
    Calls Tryz.prog 96 #[.slice A n c, .int .i64 (i : Int), .int .i64 (k : Int)] w fun e w' => e = .returned (.bool (bit l i k)) ∧ w = w' := by
  obtain ⟨ad, rfl, _, hc⟩ := hR.word_k hi
  have HH := Lib.hid (fun W => wHas_any (l.getD i 0) k W (words_getD hw i) hk)
  have e : (l.getD i 0).testBit k = bit l i k := rfl
  rw [e] at HH
  clear e hR hw
  generalize bit l i k = b at *
  generalize l.getD i 0 = x at *
  go_enter Tryz.func96, Tryz.ntmps96
  go_wp2_with fail
  refine (HH.out _).mono ?_
  rintro e w1 ⟨rfl, rfl⟩
  go_wp2
  go_ret
  exact ⟨rfl, rfl⟩
end Go.Proofs.YtjpmhbnikoggaaaGreatDoor
