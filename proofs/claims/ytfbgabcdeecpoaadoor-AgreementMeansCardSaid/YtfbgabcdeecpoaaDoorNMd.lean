/- Layer 6: texts joined: Dc Dd De Df Dg Dh Di Dj Dk Dl. -/
import Derived.Test.YtfbgabcdeecpoaaDoorNMa
import Derived.Test.YtfbgabcdeecpoaaDoorNMb
import Derived.Test.YtfbgabcdeecpoaaDoorNMc
import Derived.Laws.BitsAllLaws
import Derived.Lib.TrailingZeros
import Derived.Lib.LaidTab
import Derived.BigRegion
import Derived.Deep.Cut
import Derived.Deep.CutRange
import Derived.StillTailTactics
import Derived.Laws.ResultCell
import Derived.Deep.RegionHeld3
import Derived.Deep.RegionLaw
import Derived.Deep.AppendLies
import Derived.Maps.AppendAt
/- Layer 13: slices of words and of lists of words, a model in memory; small functions of both sides. -/
namespace Go.Proofs.YtfbgabcdeecpoaaDoor
open Go.RowKit Go.Proofs.Ws
set_option maxRecDepth 100000
/-- a slice of lists of words -/
structure UsR (W : World) (B : Nat) (A : Option Addr) (n : Nat) (ls : List (List Nat)) : Prop where
  len : ls.length = n
  ex : ∃ vs, Reads W B 1 A n vs ∧ ∀ j, j < n → ∃ Aj cj, vs[j]? = some (.slice Aj (ls.getD j []).length cj) ∧ Reads W B 1 Aj (ls.getD j []).length (us (ls.getD j [])) ∧ (ls.getD j []).length ≤ maxLen
theorem UsR.below {W W' : World} {B B2 : Nat} {A : Option Addr} {n : Nat} {ls : List (List Nat)} (h : UsR W B A n ls) (hb : Below B W W') (h2 : B ≤ B2) : UsR W' B2 A n ls := by
  obtain ⟨vs, h1, h3⟩ := h.ex
  refine ⟨h.len, vs, (h1.below hb).more h2, fun j hj => ?_⟩
  obtain ⟨Aj, cj, e1, e2, e3⟩ := h3 j hj
  exact ⟨Aj, cj, e1, (e2.below hb).more h2, e3⟩
theorem UsR.at_ {W : World} {B : Nat} {A : Option Addr} {n k : Nat} {ls : List (List Nat)} (h : UsR W B A n ls) (hk : k < n) :
    ∃ ad Aj cj, A = some ad ∧ ad.block < B ∧ W.cell? (ad.add k) = some (.slice Aj (ls.getD k []).length cj) ∧ Reads W B 1 Aj (ls.getD k []).length (us (ls.getD k [])) ∧ (ls.getD k []).length ≤ maxLen := by
  obtain ⟨vs, h1, h3⟩ := h.ex
  obtain ⟨Aj, cj, e1, e2, e3⟩ := h3 k hk
  obtain ⟨ad, rfl, hb, hc⟩ := h1.2 (by omega)
  exact ⟨ad, Aj, cj, rfl, hb, hc k _ e1, e2, e3⟩
/-- a model in memory -/
structure MoR (W : World) (B : Nat) (v : Value) (m : Mo) : Prop where
  ex : ∃ A1 c1 A2 c2, v = .agg #[.int .i64 m.n, .slice A1 m.val.length c1, .slice A2 m.rel.length c2] ∧ Reads W B 1 A1 m.val.length (us m.val) ∧ UsR W B A2 m.rel.length m.rel
  lim : m.val.length ≤ maxLen ∧ m.rel.length ≤ maxLen
  num : -9223372036854775808 ≤ m.n ∧ m.n < 9223372036854775808
  wval : Words m.val
  wrel : ∀ r ∈ m.rel, Words r
theorem MoR.below {W W' : World} {B B2 : Nat} {v : Value} {m : Mo} (h : MoR W B v m) (hb : Below B W W') (h2 : B ≤ B2) : MoR W' B2 v m := by
  obtain ⟨A1, c1, A2, c2, e, h1, h3⟩ := h.ex
  exact ⟨⟨A1, c1, A2, c2, e, (h1.below hb).more h2, h3.below hb h2⟩, h.lim, h.num, h.wval, h.wrel⟩
end Go.Proofs.YtfbgabcdeecpoaaDoor
/- Layer 13: the check of a model on both sides. -/
namespace Go.Proofs.Ws
theorem take_one {α : Type} {l : List α} {j : Nat} {d : α} (h : j < l.length) {P : α → Prop} (h1 : ∀ x ∈ l.take j, P x) (h2 : P (l.getD j d)) : ∀ x ∈ l.take (j + 1), P x := by
  rw [List.take_succ_eq_append_getElem h]
  intro y hy
  rcases List.mem_append.1 hy with hy | hy
  · exact h1 y hy
  · rw [List.mem_singleton.1 hy]
    rw [List.getD_eq_getElem?_getD, List.getElem?_eq_getElem h] at h2
    exact h2
end Go.Proofs.Ws
namespace Go.Proofs.YtfbgabcdeecpoaaDoor
open Go.RowKit Go.Proofs.Ws
set_option maxRecDepth 100000
/-- a box of a model -/
def MBox (W : World) (g : Nat) (n : Int) (v1 v2 : Value) : Prop := W.heap[g]? = some (.cells #[.int .i64 n, v1, v2] 34 (0, 0))
section
variable {W W' : World} {g : Nat} {n : Int} {v1 v2 : Value}
theorem MBox.c0 (h : MBox W g n v1 v2) : W.cell? ⟨g, 0, none⟩ = some (.int .i64 n) := by rw [Lib.cell_of_heap h]; rfl
theorem MBox.c1 (h : MBox W g n v1 v2) : W.cell? ⟨g, 1, none⟩ = some v1 := by rw [Lib.cell_of_heap h]; rfl
theorem MBox.c2 (h : MBox W g n v1 v2) : W.cell? ⟨g, 2, none⟩ = some v2 := by rw [Lib.cell_of_heap h]; rfl
theorem MBox.free (h : MBox W g n v1 v2) (k : Nat) : W.frozen? ⟨g, k, none⟩ = false := Lib.frozen_of_heap h k
theorem MBox.lt (h : MBox W g n v1 v2) : g < W.heap.size := (Array.getElem?_eq_some_iff.1 h).1
theorem MBox.below {B : Nat} (h : MBox W g n v1 v2) (hb : Below B W W') (hg : g < B) : MBox W' g n v1 v2 := (hb.block g hg).trans h
theorem MBox.made (W : World) (n : Int) (v1 v2 : Value) : MBox (W.alloc (.cells #[.int .i64 n, v1, v2] 34)) W.heap.size n v1 v2 := heap_alloc_new W _
end
end Go.Proofs.YtfbgabcdeecpoaaDoor
/- Layer 13: the reference's check of a model; the facts at a world. -/
namespace Go.Proofs.YtfbgabcdeecpoaaDoor
open Go.RowKit Go.Proofs.Ws
set_option maxRecDepth 100000
end Go.Proofs.YtfbgabcdeecpoaaDoor
/- Layer 13: the facts at a world, on both sides. -/
namespace Go.Proofs.YtfbgabcdeecpoaaDoor
open Go.RowKit Go.Proofs.Ws
set_option maxRecDepth 100000
theorem bit_and {s k : Nat} (hs : s < 18446744073709551616) : bits .and .u64 ((s : Int) / 2 ^ k) 1 = if s.testBit k then 1 else 0 := by
  rw [show ((s : Int) / 2 ^ k) = ((s / 2 ^ k : Nat) : Int) by simp, show (1 : Int) = ((1 : Nat) : Int) from rfl, u64_and_nat _ _ (Nat.lt_of_le_of_lt (Nat.div_le_self _ _) hs) (by decide), Nat.and_one_is_mod, Nat.testBit_eq_decide_div_mod_eq]
  by_cases h : s / 2 ^ k % 2 = 1
  · rw [h]; rfl
  · rw [show s / 2 ^ k % 2 = 0 by omega]; rfl
end Go.Proofs.YtfbgabcdeecpoaaDoor
/- Layer 13: equality of sets, lists, models; what is small. -/
namespace Go.Proofs.YtfbgabcdeecpoaaDoor
open Go.RowKit Go.Proofs.Ws
set_option maxRecDepth 100000
theorem eqZ_at {a b : List Int} (hl : a.length = b.length) (h : ∀ j, j < a.length → a.getD j 0 = b.getD j 0) : a = b := by
  apply List.ext_getElem hl
  intro j h1 h2
  have := h j h1
  simpa [h1, h2] using this
end Go.Proofs.YtfbgabcdeecpoaaDoor
/- Layer 13: equality of models; what is small. -/
namespace Go.Proofs.YtfbgabcdeecpoaaDoor
open Go.RowKit Go.Proofs.Ws
set_option maxRecDepth 100000
end Go.Proofs.YtfbgabcdeecpoaaDoor
/- Layer 13: trailing zeros, the number of members, the members of a set on both sides, sets of indices. -/
namespace Go.Proofs.YtfbgabcdeecpoaaDoor
open Go.RowKit Go.Proofs.Ws
set_option maxRecDepth 100000
theorem ones_steps (s : Nat) (hs : s < 18446744073709551616) : ∃ a1 a2 a3 a4 a5 a6 : Nat,
    IntKind.u64.wrap (bits .and .u64 ((s : Int) / 2) 6148914691236517205 + bits .and .u64 (s : Int) 6148914691236517205) = (a1 : Int) ∧
    IntKind.u64.wrap (bits .and .u64 ((a1 : Int) / 4) 3689348814741910323 + bits .and .u64 (a1 : Int) 3689348814741910323) = (a2 : Int) ∧
    bits .and .u64 (IntKind.u64.wrap ((a2 : Int) / 16 + (a2 : Int))) 1085102592571150095 = (a3 : Int) ∧
    IntKind.u64.wrap ((a3 : Int) + (a3 : Int) / 256) = (a4 : Int) ∧ IntKind.u64.wrap ((a4 : Int) + (a4 : Int) / 65536) = (a5 : Int) ∧
    IntKind.u64.wrap ((a5 : Int) + (a5 : Int) / 4294967296) = (a6 : Int) ∧ bits .and .i64 (wrap64 (a6 : Int)) 127 = ((mem s).length : Int) := by
  obtain ⟨a1, a2, a3, a4, a5, a6, e1, e2, e3, e4, e5, e6, h1, h2, h3, h4, h5, h6, h7⟩ := swar s
  refine ⟨a1, a2, a3, a4, a5, a6, ?_, ?_, ?_, ?_, ?_, ?_, ?_⟩
  · have x1 := bits_and_nn (s / 2) 6148914691236517205 (by omega) (by omega)
    have x2 := bits_and_nn s 6148914691236517205 hs (by omega)
    rw [show ((s : Int) / 2) = ((s / 2 : Nat) : Int) from by omega, show (6148914691236517205 : Int) = ((6148914691236517205 : Nat) : Int) from rfl, x1, x2, IntKind.wrap_u64]
    clear e2 e3 e4 e5 e6 x1 x2
    omega
  · have x1 := bits_and_nn (a1 / 4) 3689348814741910323 (by omega) (by omega)
    have x2 := bits_and_nn a1 3689348814741910323 (by omega) (by omega)
    rw [show ((a1 : Int) / 4) = ((a1 / 4 : Nat) : Int) from by omega, show (3689348814741910323 : Int) = ((3689348814741910323 : Nat) : Int) from rfl, x1, x2, IntKind.wrap_u64]
    clear e1 e3 e4 e5 e6 x1 x2
    omega
  · have y : IntKind.u64.wrap ((a2 : Int) / 16 + (a2 : Int)) = ((a2 / 16 + a2 : Nat) : Int) := by
      rw [IntKind.wrap_u64]; clear e1 e2 e3 e4 e5 e6; omega
    have x1 := bits_and_nn (a2 / 16 + a2) 1085102592571150095 h2 (by omega)
    rw [y, show (1085102592571150095 : Int) = ((1085102592571150095 : Nat) : Int) from rfl, x1, e3]
  · rw [IntKind.wrap_u64]; clear e1 e2 e3 e5 e6; omega
  · rw [IntKind.wrap_u64]; clear e1 e2 e3 e4 e6; omega
  · rw [IntKind.wrap_u64]; clear e1 e2 e3 e4 e5; omega
  · have y : wrap64 (a6 : Int) = (a6 : Int) := IntWalk.wrap64_in _ ⟨by omega, by omega⟩
    rw [y, i64_and127, ← h7]
    omega
theorem ones_any (s : Nat) (w : World) (hs : s < 18446744073709551616) :
    Calls Tryd.prog 89 #[.int .u64 s] w fun e w' => e = .returned (.int .i64 ((mem s).length : Int)) ∧ w = w' := by
  obtain ⟨a1, a2, a3, a4, a5, a6, e1, e2, e3, e4, e5, e6, e7⟩ := ones_steps s hs
  clear hs
  go_enter Tryd.func89, Tryd.ntmps89
  go_wp2
  go_ret
  exact ⟨rfl, rfl⟩
/-- what members hands back: a row of its own -/
def OwnsMem (s : Nat) (w : World) (e : Ending) (w' : World) : Prop :=
  ∃ A c, e = .returned (.slice A (mem s).length c) ∧ w'.ownsRow w.heap.size 3 1 (.slice A (mem s).length c) (mem s).length (iv (mem s)) ∧ Below w.heap.size w w'
theorem Reads.iv_k {w : World} {B n : Nat} {A : Option Addr} {l : List Nat} (h : Reads w B 1 A n (iv l)) {k : Nat} (hk : k < n) :
    ∃ ad, A = some ad ∧ ad.block < B ∧ w.cell? (ad.add k) = some (.int .i64 ((l.getD k 0 : Nat) : Int)) := by
  obtain ⟨ad, u, hA, hb, hu, hc⟩ := h.at_ hk
  unfold iv at hu
  rw [List.getElem?_map] at hu
  have hl : k < l.length := by have := h.1; rw [iv_length] at this; omega
  rw [List.getElem?_eq_getElem hl] at hu
  simp at hu
  subst hu
  exact ⟨ad, hA, hb, by rw [hc, List.getD_eq_getElem?_getD, List.getElem?_eq_getElem hl]; rfl⟩
end Go.Proofs.YtfbgabcdeecpoaaDoor
/- Layer 13: the model of some worlds, by the program. -/
namespace Go.Proofs.YtfbgabcdeecpoaaDoor
open Go.RowKit Go.Proofs.Ws
set_option maxRecDepth 100000
/-- block g holds just these slices of words -/
def HoldsV (w : World) (g : Nat) (vs : List Value) : Prop := w.heap[g]? = some (.cells vs.toArray 31 (0, 0))
theorem HoldsV.cell {w : World} {g : Nat} {vs : List Value} (h : HoldsV w g vs) (k : Nat) (hk : k < vs.length) : w.cell? ⟨g, k, none⟩ = some (vs.getD k undef) := by
  rw [Lib.cell_of_heap h, List.getElem?_toArray, List.getElem?_eq_getElem hk, List.getD_eq_getElem?_getD, List.getElem?_eq_getElem hk]
  rfl
theorem HoldsV.free {w : World} {g : Nat} {vs : List Value} (h : HoldsV w g vs) (k : Nat) : w.frozen? ⟨g, k, none⟩ = false := Lib.frozen_of_heap h k
theorem HoldsV.put {w : World} {g : Nat} {vs : List Value} (h : HoldsV w g vs) (k : Nat) (v : Value) : HoldsV (w.setCell ⟨g, k, none⟩ v) g (vs.set k v) := by
  unfold HoldsV at h ⊢
  have e : (vs.set k v).toArray = vs.toArray.setIfInBounds k v := by simp
  rw [e]
  simp [World.setCell, Array.getElem?_modify, h]
theorem HoldsV.lt {w : World} {g : Nat} {vs : List Value} (h : HoldsV w g vs) : g < w.heap.size := (Array.getElem?_eq_some_iff.1 h).1
theorem Tryd.infoV : (Tryd.prog.info? 31).map (fun i => (i.zero, i.size, i.bytes)) = some (some (.slice none 0 0), 1, 24) := by kernel_rfl
/-- a model whose data lie behind lo: it still reads where these blocks are as they were -/
def MoF (W : World) (lo : Nat) (v : Value) (m : Mo) : Prop := ∀ W' : World, W.heap.size ≤ W'.heap.size → (∀ j, lo ≤ j → j < W.heap.size → W'.heap[j]? = W.heap[j]?) → MoR W' W'.heap.size v m
theorem MoF.self {W : World} {lo : Nat} {v : Value} {m : Mo} (h : MoF W lo v m) : MoR W W.heap.size v m := h W (Nat.le_refl _) (fun _ _ _ => rfl)
theorem MoF.mono {W : World} {lo lo' : Nat} {v : Value} {m : Mo} (h : MoF W lo v m) (hl : lo' ≤ lo) : MoF W lo' v m := fun W' hs hag => h W' hs (fun j hj => hag j (by omega))
theorem MoF.below {W W2 : World} {lo : Nat} {v : Value} {m : Mo} (h : MoF W lo v m) (hb : Below W.heap.size W W2) : MoF W2 lo v m := fun W' hs hag =>
  h W' (Nat.le_trans hb.size hs) (fun j h1 h2 => (hag j h1 (Nat.lt_of_lt_of_le h2 hb.size)).trans (hb.block j h2))
/-- blocks that a model under way lies in: the parameter, the result's cell, the part, its facts, its relations -/
structure Dm (w wx : World) (n : Int) (v1 v2 : Value) (P GV GR k nv nr : Nat) (LV : List Nat) (LR : List Value) : Prop where
  box : MBox wx w.heap.size n v1 v2
  res : MBox wx (w.heap.size + 1) 0 (.slice none 0 0) (.slice none 0 0)
  part : MBox wx P (k : Int) (.slice (some ⟨GV, 0, none⟩) nv nv) (.slice (some ⟨GR, 0, none⟩) nr nr)
  val : HoldsU wx GV LV
  rel : HoldsV wx GR LR
  below : Below w.heap.size w wx
  lt1 : w.heap.size + 1 < P
  lt2 : w.heap.size + 1 < GV
  lt3 : w.heap.size + 1 < GR
section
variable {w wx wy : World} {n : Int} {v1 v2 : Value} {P GV GR k nv nr : Nat} {LV : List Nat} {LR : List Value}
/-- nothing but block g has changed -/
structure OnlyB (g : Nat) (wx wy : World) : Prop where
  os : wy.os = wx.os
  tape : wy.tape = wx.tape
  output : wy.output = wx.output
  size : wx.heap.size ≤ wy.heap.size
  block : ∀ j, j < wx.heap.size → j ≠ g → wy.heap[j]? = wx.heap[j]?
theorem OnlyB.below {g B : Nat} (h : OnlyB g wx wy) (hg : B ≤ g) (hB : B ≤ wx.heap.size) : Below B wx wy := ⟨h.os, h.tape, h.output, h.size, fun j hj => h.block j (by omega) (by omega)⟩
theorem OnlyB.refl (g : Nat) (wx : World) : OnlyB g wx wx := ⟨rfl, rfl, rfl, Nat.le_refl _, fun _ _ _ => rfl⟩
theorem OnlyB.drew {g : Nat} (h : OnlyB g wx wy) : OnlyB g wx wy.drew := ⟨h.os, h.tape, h.output, h.size, h.block⟩
theorem OnlyB.trans {g : Nat} {wz : World} (h : OnlyB g wx wy) (h2 : OnlyB g wy wz) : OnlyB g wx wz :=
  ⟨h2.os.trans h.os, h2.tape.trans h.tape, h2.output.trans h.output, Nat.le_trans h.size h2.size, fun j hj hg => (h2.block j (by have := h.size; omega) hg).trans (h.block j hj hg)⟩
theorem OnlyB.set (g k : Nat) (wx : World) (u : Value) : OnlyB g wx (wx.setCell ⟨g, k, none⟩ u) := by
  have b := (Below.refl 0 wx).setCell (p := ⟨g, k, none⟩) (Nat.zero_le _) u
  exact ⟨b.os, b.tape, b.output, b.size, fun j _ hg => Below.heap_setCell wx ⟨g, k, none⟩ u j hg⟩
theorem OnlyB.cell {g : Nat} {p : Addr} (h : OnlyB g wx wy) (h1 : p.block < wx.heap.size) (h2 : p.block ≠ g) : wy.cell? p = wx.cell? p := World.cell?_of_block (h.block _ h1 h2)
theorem Dm.drew (h : Dm w wx n v1 v2 P GV GR k nv nr LV LR) : Dm w wx.drew n v1 v2 P GV GR k nv nr LV LR := ⟨h.box, h.res, h.part, h.val, h.rel, h.below.drew, h.lt1, h.lt2, h.lt3⟩
/-- a step that leaves all these blocks alone -/
theorem Dm.keep {g : Nat} (h : Dm w wx n v1 v2 P GV GR k nv nr LV LR) (hb : OnlyB g wx wy) (hg : wx.heap.size ≤ g ∨ (w.heap.size + 1 < g ∧ g ≠ P ∧ g ≠ GV ∧ g ≠ GR)) : Dm w wy n v1 v2 P GV GR k nv nr LV LR := by
  have l0 := h.box.lt
  have l1 := h.res.lt
  have l2 := h.part.lt
  have l3 := h.val.lt
  have l4 := h.rel.lt
  exact ⟨(hb.block _ l0 (by omega)).trans h.box, (hb.block _ l1 (by omega)).trans h.res, (hb.block _ l2 (by omega)).trans h.part, (hb.block _ l3 (by omega)).trans h.val, (hb.block _ l4 (by omega)).trans h.rel,
    h.below.trans (hb.below (by omega) (by omega)), h.lt1, h.lt2, h.lt3⟩
theorem Dm.alloc (h : Dm w wx n v1 v2 P GV GR k nv nr LV LR) (o : Obj) : Dm w (wx.alloc o) n v1 v2 P GV GR k nv nr LV LR :=
  h.keep (g := wx.heap.size) ⟨rfl, rfl, rfl, by simp, fun j hj _ => Below.heap_alloc wx o j hj⟩ (.inl (Nat.le_refl _))
end
theorem results_cell {fn : Func} {p : Tmp} {ty : TypeId} (h : fn.results = #[.cell p ty]) (tmps : Array Value) (P : Program) (w : World) :
    (results fn tmps).run P w = ((asAddr (tmps.getD p undef)).run P w).andThen fun a w₁ => (loadVar ty a).run P w₁ := by
  simp only [results, h]
  simp [Sem.run_bind, Result.andThen]
theorem ret_cell1 {P : Program} {fn : Func} {p : Tmp} {ty : TypeId} (h : fn.results = #[.cell p ty]) (tmps : Array Value) (w : World) (g : Nat) (t : TypeId) (cs : Array Value) (fr : Nat × Nat) (d : TypeDesc)
    (hp : tmps.getD p undef = .pointer (some ⟨g, 0, none⟩)) (hg : w.heap[g]? = some (.cells cs t fr))
    (hu : P.underlying ty = some d) (hd : (match d with | .struct _ | .array _ _ => true | _ => false) = true) (hi : (P.info? ty).map (·.size) = some cs.size) :
    (results fn tmps).run P w = .ok (.agg cs) w := by
  rw [results_cell h, hp]
  simp [asAddr, Result.andThen, run_loadVar_row w g t ty cs fr d hg hu hd hi]
/-- rows of words that lie each in its block -/
def RowsW (W : World) (lo k : Nat) (f : Nat → List Nat) (vs : List Value) (a : Nat) : Prop := ∀ j, j < a → ∃ g, vs[j]? = some (.slice (some ⟨g, 0, none⟩) k k) ∧ HoldsU W g (f j) ∧ lo < g
theorem RowsW.keep {W W' : World} {lo k a g0 : Nat} {f : Nat → List Nat} {vs : List Value} (h : RowsW W lo k f vs a) (ho : OnlyB g0 W W') (hg : W.heap.size ≤ g0 ∨ g0 ≤ lo) : RowsW W' lo k f vs a := fun j hj => by
  obtain ⟨g, h1, h2, h3⟩ := h j hj
  exact ⟨g, h1, (ho.block g h2.lt (by have := h2.lt; omega)).trans h2, h3⟩
theorem RowsW.snoc {W : World} {lo k a g : Nat} {f : Nat → List Nat} {vs : List Value} (h : RowsW W lo k f vs a) (hl : vs.length = a) (hg : HoldsU W g (f a)) (hlo : lo < g) : RowsW W lo k f (vs ++ [.slice (some ⟨g, 0, none⟩) k k]) (a + 1) := fun j hj => by
  by_cases e : j = a
  · subst e
    exact ⟨g, by rw [List.getElem?_append_right (by omega), hl]; simp, hg, hlo⟩
  · obtain ⟨g2, h1, h2, h3⟩ := h j (by omega)
    exact ⟨g2, by rw [List.getElem?_append_left (by omega)]; exact h1, h2, h3⟩
theorem RowsW.usr {W : World} {lo k a g : Nat} {f : Nat → List Nat} {vs : List Value} (h : RowsW W lo k f vs a) (hl : vs.length = a) (hf : ∀ j, j < a → (f j).length = k) (hk : k ≤ maxLen) (hg : HoldsV W g vs) :
    UsR W W.heap.size (some ⟨g, 0, none⟩) a ((List.range a).map f) := by
  refine ⟨by simp, vs, ⟨by omega, fun _ => ⟨_, rfl, hg.lt, fun j u hu => ?_⟩⟩, fun j hj => ?_⟩
  · rw [addr0]
    have hj : j < vs.length := by
      rcases Nat.lt_or_ge j vs.length with h' | h'
      · exact h'
      · rw [List.getElem?_eq_none h'] at hu; cases hu
    rw [hg.cell j hj, List.getD_eq_getElem?_getD, hu]; rfl
  · obtain ⟨g2, h1, h2, h3⟩ := h j hj
    have e : ((List.range a).map f).getD j [] = f j := by simp [hj]
    rw [e, hf j hj]
    have := h2.reads
    rw [hf j hj] at this
    exact ⟨_, _, h1, this, hk⟩
end Go.Proofs.YtfbgabcdeecpoaaDoor
/- Layer 13: the model of some worlds, by the reference. -/
namespace Go.Proofs.YtfbgabcdeecpoaaDoor
open Go.RowKit Go.Proofs.Ws
set_option maxRecDepth 100000
theorem own_keep1 {W W' : World} {lo size : Nat} {e : TypeId} {v : Value} {n : Nat} {xs : List Value} (h : W.ownsRow lo e size v n xs) (hk : ∀ g, v.ownBlock = some g → W'.heap[g]? = W.heap[g]?) : W'.ownsRow lo e size v n xs := by
  refine ⟨h.1, ?_⟩
  rcases h.2 with hn | ⟨g, cap, cur, hv, hb, hg, rest⟩
  · exact .inl hn
  · exact .inr ⟨g, cap, cur, hv, hb, by rw [hk g (by rw [hv]; rfl)]; exact hg, rest⟩
theorem own_type {W : World} {b size n : Nat} {e : TypeId} {v : Value} {xs : List Value} (h : W.ownsRow b e size v n xs) {g : Nat} (hg : v.ownBlock = some g) : ∃ cur, W.heap[g]? = some (.cells cur e (0, 0)) := by
  rcases h.2 with ⟨rfl, _⟩ | ⟨g2, cap, cur, rfl, _, h2, _⟩
  · cases hg
  · have e2 : g2 = g := by injection hg
    subst e2
    exact ⟨cur, h2⟩
theorem own_apart {W : World} {b b2 size size2 n n2 : Nat} {e e2 : TypeId} {v v2 : Value} {xs xs2 : List Value} (h : W.ownsRow b e size v n xs) (h2 : W.ownsRow b2 e2 size2 v2 n2 xs2) (hne : e ≠ e2) {g : Nat} (hg : v.ownBlock = some g) : v2.ownBlock ≠ some g := by
  intro hg2
  obtain ⟨c1, k1⟩ := own_type h hg
  obtain ⟨c2, k2⟩ := own_type h2 hg2
  rw [k1] at k2
  injection k2 with k2
  injection k2 with _ k3
  exact hne k3
theorem own_base {W : World} {b b' size n : Nat} {e : TypeId} {v : Value} {xs : List Value} (h : W.ownsRow b e size v n xs) (hb : b' ≤ b) : W.ownsRow b' e size v n xs := by
  refine ⟨h.1, ?_⟩
  rcases h.2 with hn | ⟨g, cap, cur, hv, hbb, rest⟩
  · exact .inl hn
  · exact .inr ⟨g, cap, cur, hv, Nat.le_trans hb hbb, rest⟩
theorem own_sl {w : World} {base : Nat} {e : TypeId} {v : Value} {n size : Nat} {xs : List Value} (h : w.ownsRow base e size v n xs) : ∃ A c, v = .slice A n c := by
  rcases h.2 with ⟨rfl, rfl⟩ | ⟨g, cap, cur, rfl, _⟩
  · exact ⟨_, _, rfl⟩
  · exact ⟨_, _, rfl⟩
/-- rows of words that the reference has made -/
def RowsO (W : World) (base k : Nat) (RV : Value) (a : Nat) (F : Nat → List Nat) : Prop :=
  ∃ vs, W.ownsRow base 31 1 RV a vs ∧ ∀ j, j < a → ∃ A c, vs[j]? = some (.slice A k c) ∧ W.ownsRow base 28 1 (.slice A k c) k (us (F j))
theorem RowsO.below {W W' : World} {base k a : Nat} {RV : Value} {F : Nat → List Nat} (h : RowsO W base k RV a F) (hb : Below W.heap.size W W') : RowsO W' base k RV a F := by
  obtain ⟨vs, h1, h2⟩ := h
  refine ⟨vs, own_keep1 h1 (fun g hg => hb.block g (h1.lt g hg).2), fun j hj => ?_⟩
  obtain ⟨A, c, e, h3⟩ := h2 j hj
  exact ⟨A, c, e, own_keep1 h3 (fun g hg => hb.block g (h3.lt g hg).2)⟩
theorem RowsO.set {W : World} {base k a b j : Nat} {RV u : Value} {F : Nat → List Nat} (h : RowsO W base k RV a F) (hb : b < base) : RowsO (W.setCell ⟨b, j, none⟩ u) base k RV a F := by
  obtain ⟨vs, h1, h2⟩ := h
  refine ⟨vs, own_keep1 h1 (fun g hg => Below.heap_setCell W ⟨b, j, none⟩ u g (by have := (h1.lt g hg).1; show g ≠ b; omega)), fun j hj => ?_⟩
  obtain ⟨A, c, e, h3⟩ := h2 j hj
  exact ⟨A, c, e, own_keep1 h3 (fun g hg => Below.heap_setCell W _ u g (by have := (h3.lt g hg).1; show g ≠ b; omega))⟩
theorem RowsO.snoc {W w4 : World} {base k a : Nat} {RV RV' : Value} {F : Nat → List Nat} {A : Option Addr} {c : Nat} {o : Obj} {vs : List Value}
    (h1 : W.ownsRow base 31 1 RV a vs) (h2 : ∀ j, j < a → ∃ A c, vs[j]? = some (.slice A k c) ∧ W.ownsRow base 28 1 (.slice A k c) k (us (F j)))
    (hr : W.ownsRow base 28 1 (.slice A k c) k (us (F a))) (hg : (W.alloc o).grownBy w4 RV.ownBlock) (ho : w4.ownsRow base 31 1 RV' (a + 1) (vs ++ [.slice A k c])) : RowsO w4 base k RV' (a + 1) F := by
  have hvl : vs.length = a := by have := h1.1; omega
  have keep : ∀ (m : List Nat) (A' : Option Addr) (c' : Nat), W.ownsRow base 28 1 (.slice A' k c') k (us m) → w4.ownsRow base 28 1 (.slice A' k c') k (us m) := by
    intro m A' c' hr
    refine own_keep1 hr (fun g hgg => ?_)
    have hlt := (hr.lt g hgg).2
    exact (hg.block g (Nat.lt_of_lt_of_le hlt (by simp)) (fun e => own_apart hr h1 (by decide) hgg e.symm)).trans (Below.heap_alloc W o g hlt)
  refine ⟨_, ho, fun j hj => ?_⟩
  by_cases e : j = a
  · subst e
    exact ⟨A, c, by rw [List.getElem?_append_right (by omega), hvl, Nat.sub_self]; rfl, keep _ _ _ hr⟩
  · obtain ⟨A', c', e', h3⟩ := h2 j (by omega)
    exact ⟨A', c', by rw [List.getElem?_append_left (by omega)]; exact e', keep _ _ _ h3⟩
theorem RowsO.usr {W : World} {base k a : Nat} {RV : Value} {F : Nat → List Nat} (h : RowsO W base k RV a F) (hf : ∀ j, j < a → (F j).length = k) (hk : k ≤ maxLen) : ∃ A c, RV = .slice A a c ∧ UsR W W.heap.size A a ((List.range a).map F) := by
  obtain ⟨vs, h1, h2⟩ := h
  obtain ⟨A, c, rfl, hR⟩ := own_reads h1
  refine ⟨A, c, rfl, by simp, vs, hR, fun j hj => ?_⟩
  obtain ⟨A', c', e', h3⟩ := h2 j hj
  have e : ((List.range a).map F).getD j [] = F j := by simp [hj]
  rw [e, hf j hj]
  exact ⟨A', c', e', Reads.of_own h3, hk⟩
/-- a model that the reference makes: its parameter, the result's cell, the part -/
structure Tk (w wx : World) (n : Int) (v1 v2 : Value) (k : Nat) (VV RV : Value) : Prop where
  box : MBox wx w.heap.size n v1 v2
  res : MBox wx (w.heap.size + 1) 0 (.slice none 0 0) (.slice none 0 0)
  part : MBox wx (w.heap.size + 1 + 1) (k : Int) VV RV
  below : Below w.heap.size w wx
  size : w.heap.size + 3 ≤ wx.heap.size
section
variable {w wx wy : World} {n : Int} {v1 v2 VV RV : Value} {k : Nat}
theorem Tk.drew (h : Tk w wx n v1 v2 k VV RV) : Tk w wx.drew n v1 v2 k VV RV := ⟨h.box, h.res, h.part, h.below.drew, h.size⟩
/-- whatever lies behind the three blocks may change -/
theorem Tk.keep (h : Tk w wx n v1 v2 k VV RV) (hb : Below (w.heap.size + 3) wx wy) : Tk w wy n v1 v2 k VV RV :=
  ⟨(hb.block _ (by omega)).trans h.box, (hb.block _ (by omega)).trans h.res, (hb.block _ (by omega)).trans h.part, h.below.trans (hb.mono (by omega)), Nat.le_trans h.size hb.size⟩
end
end Go.Proofs.YtfbgabcdeecpoaaDoor
/- Layer 13: a model restricted to a set, and what is reached from a set, on both sides. -/
namespace Go.Proofs.Ws
end Go.Proofs.Ws
namespace Go.Proofs.YtfbgabcdeecpoaaDoor
open Go.RowKit Go.Proofs.Ws
set_option maxRecDepth 100000
theorem MoR.zero (W : World) (B : Nat) : MoR W B (.agg #[.int .i64 0, .slice none 0 0, .slice none 0 0]) mo0 := by
  have hR : Reads W B 1 none 0 (us []) := by unfold us; exact Reads.none_
  exact ⟨⟨none, 0, none, 0, rfl, hR, ⟨rfl, [], Reads.none_, fun j hj => absurd hj (by simp [mo0])⟩⟩, ⟨by unfold maxLen; decide, by unfold maxLen; decide⟩, ⟨by decide, by decide⟩, fun x hx => absurd hx (by simp [mo0]), fun r hr => absurd hr (by simp [mo0])⟩
theorem ret_cellT {P : Program} {fn : Func} {p u : Tmp} {ty : TypeId} (h : fn.results = #[.cell p ty, .tmp u]) (tmps : Array Value) (w : World) (g : Nat) (t : TypeId) (cs : Array Value) (fr : Nat × Nat) (d : TypeDesc)
    (hp : tmps.getD p undef = .pointer (some ⟨g, 0, none⟩)) (hg : w.heap[g]? = some (.cells cs t fr))
    (hu : P.underlying ty = some d) (hd : (match d with | .struct _ | .array _ _ => true | _ => false) = true) (hi : (P.info? ty).map (·.size) = some cs.size) :
    (results fn tmps).run P w = .ok (.tuple #[.agg cs, tmps.getD u undef]) w := by
  rw [results_cell_tmp h, hp]
  simp [asAddr, Result.andThen, run_loadVar_row w g t ty cs fr d hg hu hd hi]
end Go.Proofs.YtfbgabcdeecpoaaDoor
