/- Layer 13: the disjoint union, by the program. -/
import Derived.Test.YtofclgapgjcflaaDoorDr
import Derived.Deep.RegionHeld3
namespace Go.Proofs.Ws
/-- a row of the union under way: the first j sets of the second part are shifted -/
def fR (ra rb : List Nat) (k j : Nat) : List Nat := ra ++ (shR (rb.take j) k ++ rb.drop j)
theorem fR_zero (ra rb : List Nat) (k : Nat) : fR ra rb k 0 = ra ++ rb := by simp [fR, shR]
theorem fR_full (ra rb : List Nat) (k : Nat) : fR ra rb k rb.length = ra ++ shR rb k := by simp [fR]
theorem fR_len (ra rb : List Nat) (k j : Nat) : (fR ra rb k j).length = ra.length + rb.length := by simp [fR, shR]; omega
theorem fR_get {ra rb : List Nat} {k j : Nat} (hj : j < rb.length) : (fR ra rb k j).getD (ra.length + j) 0 = rb.getD j 0 := by
  unfold fR
  rw [List.getD_eq_getElem?_getD, List.getElem?_append_right (by omega), show ra.length + j - ra.length = j by omega]
  have hl : (shR (rb.take j) k).length = j := by simp [shR]; omega
  rw [List.getElem?_append_right (by omega), hl, Nat.sub_self, List.getElem?_drop, Nat.add_zero, ← List.getD_eq_getElem?_getD]
theorem fR_set {ra rb : List Nat} {k j : Nat} (hj : j < rb.length) : (fR ra rb k j).set (ra.length + j) (rb.getD j 0 * 2 ^ k) = fR ra rb k (j + 1) := by
  unfold fR
  have hl : (shR (rb.take j) k).length = j := by simp [shR]; omega
  rw [List.set_append_right _ _ (by omega), show ra.length + j - ra.length = j by omega, List.set_append_right _ _ (by omega), hl, Nat.sub_self]
  have e1 : rb.drop j = rb.getD j 0 :: rb.drop (j + 1) := by
    rw [List.drop_eq_getElem_cons hj, List.getD_eq_getElem?_getD, List.getElem?_eq_getElem hj]; rfl
  have e2 : shR (rb.take (j + 1)) k = shR (rb.take j) k ++ [rb.getD j 0 * 2 ^ k] := by
    unfold shR
    rw [List.take_succ_eq_append_getElem hj, List.map_append, List.getD_eq_getElem?_getD, List.getElem?_eq_getElem hj]; rfl
  rw [e1, e2]
  simp
theorem unionE_a {a b : Mo} (h : chkM a ≠ 0) : unionE a b = chkM a ∧ unionM a b = mo0 := by
  have e : unionE a b = chkM a := by unfold unionE; rw [if_pos h]
  exact ⟨e, by unfold unionM; rw [if_neg (by rw [e]; exact h)]⟩
theorem unionE_b {a b : Mo} (h : chkM a = 0) (h2 : chkM b ≠ 0) : unionE a b = chkM b ∧ unionM a b = mo0 := by
  have e : unionE a b = chkM b := by unfold unionE; rw [if_neg (fun k => k h), if_pos h2]
  exact ⟨e, by unfold unionM; rw [if_neg (by rw [e]; exact h2)]⟩
theorem unionE_l {a b : Mo} (h : chkM a = 0) (h2 : chkM b = 0) (h3 : a.rel.length ≠ b.rel.length ∨ a.val.length ≠ b.val.length) : unionE a b = 1 ∧ unionM a b = mo0 := by
  have e : unionE a b = 1 := by unfold unionE; rw [if_neg (fun k => k h), if_neg (fun k => k h2), if_pos h3]
  exact ⟨e, by unfold unionM; rw [if_neg (by rw [e]; decide)]⟩
theorem unionE_m {a b : Mo} (h : chkM a = 0) (h2 : chkM b = 0) (h3 : ¬ (a.rel.length ≠ b.rel.length ∨ a.val.length ≠ b.val.length)) (h4 : 64 < a.n + b.n) : unionE a b = 8 ∧ unionM a b = mo0 := by
  have e : unionE a b = 8 := by unfold unionE; rw [if_neg (fun k => k h), if_neg (fun k => k h2), if_neg h3, if_pos h4]
  exact ⟨e, by unfold unionM; rw [if_neg (by rw [e]; decide)]⟩
theorem unionE_ok {a b : Mo} (h : chkM a = 0) (h2 : chkM b = 0) (h3 : ¬ (a.rel.length ≠ b.rel.length ∨ a.val.length ≠ b.val.length)) (h4 : ¬ 64 < a.n + b.n) : unionE a b = 0 ∧ unionM a b = ⟨a.n + b.n, (List.range a.val.length).map (unionV a b), (List.range a.rel.length).map (unionR a b)⟩ := by
  have e : unionE a b = 0 := by unfold unionE; rw [if_neg (fun k => k h), if_neg (fun k => k h2), if_neg h3, if_neg h4]
  exact ⟨e, by unfold unionM; rw [if_pos e]⟩
end Go.Proofs.Ws
namespace Go.Proofs.YtofclgapgjcflaaDoor
open Go.RowKit Go.Proofs.Ws
set_option maxRecDepth 100000
theorem shl_fit {z na nb : Nat} (hz : z < 2 ^ nb) (h : na + nb ≤ 64) : z * 2 ^ na < 18446744073709551616 ∧ IntKind.u64.wrap ((z : Int) * 2 ^ na) = ((z * 2 ^ na : Nat) : Int) := by
  have h1 : z * 2 ^ na < 2 ^ nb * 2 ^ na := Nat.mul_lt_mul_of_pos_right hz (Nat.two_pow_pos na)
  have h2 : 2 ^ nb * 2 ^ na ≤ 2 ^ 64 := by rw [← Nat.pow_add]; exact Nat.pow_le_pow_right (by decide) (by omega)
  have h3 : z * 2 ^ na < 18446744073709551616 := Nat.lt_of_lt_of_le h1 h2
  refine ⟨h3, ?_⟩
  have e : ((z : Int) * 2 ^ na) = ((z * 2 ^ na : Nat) : Int) := by simp
  rw [e, IntKind.wrap_u64]
  exact Int.emod_eq_of_lt (Int.natCast_nonneg _) (by omega)
theorem HoldsP.of_own {w : World} {base : Nat} {v : Value} {l : List Nat} (h : w.ownsRow base 31 1 v l.length (us l)) (hv : v ≠ .slice none 0 0) : ∃ g c, v = .slice (some ⟨g, 0, none⟩) l.length c ∧ base ≤ g ∧ HoldsP w g l ∧ l.length ≤ c := by
  rcases h.2 with ⟨e, _⟩ | ⟨g, cap, cur, e, hb, hg, hn, _, hs, ht⟩
  · exact absurd e hv
  · refine ⟨g, cap, e, hb, ⟨cur.toList.drop l.length, ?_⟩, hn⟩
    rw [hg]
    have : cur = (us l ++ cur.toList.drop l.length).toArray := by
      rw [← ht, Nat.mul_one, List.take_append_drop]
    rw [← this]
theorem own_P {w : World} {base : Nat} {v : Value} {l : List Nat} (h : w.ownsRow base 31 1 v l.length (us l)) (hl : 0 < l.length) : ∃ g c, v = .slice (some ⟨g, 0, none⟩) l.length c ∧ base ≤ g ∧ HoldsP w g l := by
  obtain ⟨g, c, h1, h2, h3, _⟩ := HoldsP.of_own h (fun e => by
    subst e
    rcases h.2 with ⟨_, h0⟩ | ⟨g, cap, cur, e2, _⟩
    · omega
    · cases e2)
  exact ⟨g, c, h1, h2, h3⟩
theorem ne_PV {wx : World} {g g2 : Nat} {l : List Nat} {vs : List Value} (h : HoldsP wx g l) (h2 : HoldsV wx g2 vs) : g ≠ g2 := fun e => by
  subst e
  obtain ⟨pad, h⟩ := h
  unfold HoldsV at h2
  rw [h] at h2
  injection h2 with h2
  injection h2 with _ h3
  exact absurd h3 (by decide)
/-- the blocks of a union under way: both parameters, the result's cell, the part, its facts, its relations -/
structure Du (w wx : World) (na nb : Int) (a1 a2 b1 b2 : Value) (P GV GR k nv nr : Nat) (LV : List Nat) (LR : List Value) : Prop where
  boxA : MBox wx w.heap.size na a1 a2
  boxB : MBox wx (w.heap.size + 1) nb b1 b2
  res : MBox wx (w.heap.size + 1 + 1) 0 (.slice none 0 0) (.slice none 0 0)
  part : MBox wx P (k : Int) (.slice (some ⟨GV, 0, none⟩) nv nv) (.slice (some ⟨GR, 0, none⟩) nr nr)
  val : HoldsU wx GV LV
  rel : HoldsV wx GR LR
  below : Below w.heap.size w wx
  lt1 : w.heap.size + 1 + 1 < P
  lt2 : w.heap.size + 1 + 1 < GV
  lt3 : w.heap.size + 1 + 1 < GR
section
variable {w wx wy : World} {na nb : Int} {a1 a2 b1 b2 : Value} {P GV GR k nv nr : Nat} {LV : List Nat} {LR : List Value}
theorem Du.drew (h : Du w wx na nb a1 a2 b1 b2 P GV GR k nv nr LV LR) : Du w wx.drew na nb a1 a2 b1 b2 P GV GR k nv nr LV LR := ⟨h.boxA, h.boxB, h.res, h.part, h.val, h.rel, h.below.drew, h.lt1, h.lt2, h.lt3⟩
theorem Du.keep {g : Nat} (h : Du w wx na nb a1 a2 b1 b2 P GV GR k nv nr LV LR) (hb : OnlyB g wx wy) (hg : wx.heap.size ≤ g ∨ (w.heap.size + 1 + 1 < g ∧ g ≠ P ∧ g ≠ GV ∧ g ≠ GR)) : Du w wy na nb a1 a2 b1 b2 P GV GR k nv nr LV LR := by
  have l0 := h.boxA.lt
  have l00 := h.boxB.lt
  have l1 := h.res.lt
  have l2 := h.part.lt
  have l3 := h.val.lt
  have l4 := h.rel.lt
  exact ⟨(hb.block _ l0 (by omega)).trans h.boxA, (hb.block _ l00 (by omega)).trans h.boxB, (hb.block _ l1 (by omega)).trans h.res, (hb.block _ l2 (by omega)).trans h.part, (hb.block _ l3 (by omega)).trans h.val, (hb.block _ l4 (by omega)).trans h.rel,
    h.below.trans (hb.below (by omega) (by omega)), h.lt1, h.lt2, h.lt3⟩
theorem Du.behind (h : Du w wx na nb a1 a2 b1 b2 P GV GR k nv nr LV LR) (hb : Below wx.heap.size wx wy) : Du w wy na nb a1 a2 b1 b2 P GV GR k nv nr LV LR :=
  h.keep (g := wx.heap.size) ⟨hb.os, hb.tape, hb.output, hb.size, fun j hj _ => hb.block j hj⟩ (.inl (Nat.le_refl _))
theorem Du.putV (h : Du w wx na nb a1 a2 b1 b2 P GV GR k nv nr LV LR) (j x : Nat) : Du w (wx.setCell ⟨GV, j, none⟩ (.int .u64 (x : Int))) na nb a1 a2 b1 b2 P GV GR k nv nr (LV.set j x) LR := by
  have hb := OnlyB.set GV j wx (.int .u64 (x : Int))
  have l0 := h.boxA.lt
  have l00 := h.boxB.lt
  have l1 := h.res.lt
  have e2 := ne_UM h.val h.part
  have e3 := ne_VU h.val h.rel
  have l2 := h.lt2
  exact ⟨(hb.block _ l0 (by omega)).trans h.boxA, (hb.block _ l00 (by omega)).trans h.boxB, (hb.block _ l1 (by omega)).trans h.res, (hb.block _ h.part.lt (fun e => e2 e.symm)).trans h.part, h.val.put j x, (hb.block _ h.rel.lt (fun e => e3 e.symm)).trans h.rel,
    h.below.trans (hb.below (by omega) (by omega)), h.lt1, h.lt2, h.lt3⟩
theorem Du.putR (h : Du w wx na nb a1 a2 b1 b2 P GV GR k nv nr LV LR) (j : Nat) (v : Value) : Du w (wx.setCell ⟨GR, j, none⟩ v) na nb a1 a2 b1 b2 P GV GR k nv nr LV (LR.set j v) := by
  have hb := OnlyB.set GR j wx v
  have l0 := h.boxA.lt
  have l00 := h.boxB.lt
  have l1 := h.res.lt
  have e2 := ne_VM h.rel h.part
  have e3 := ne_VU h.val h.rel
  have l2 := h.lt3
  exact ⟨(hb.block _ l0 (by omega)).trans h.boxA, (hb.block _ l00 (by omega)).trans h.boxB, (hb.block _ l1 (by omega)).trans h.res, (hb.block _ h.part.lt (fun e => e2 e.symm)).trans h.part, (hb.block _ h.val.lt e3).trans h.val, h.rel.put j v,
    h.below.trans (hb.below (by omega) (by omega)), h.lt1, h.lt2, h.lt3⟩
end
/-- rows of words, each in a block of its own, maybe with room behind them -/
def RowsP (W : World) (lo k : Nat) (f : Nat → List Nat) (vs : List Value) (a : Nat) : Prop := ∀ j, j < a → ∃ g c, vs[j]? = some (.slice (some ⟨g, 0, none⟩) k c) ∧ HoldsP W g (f j) ∧ lo < g
theorem HoldsP.blk {W W' : World} {g : Nat} {l : List Nat} (h : HoldsP W g l) (e : W'.heap[g]? = W.heap[g]?) : HoldsP W' g l := by
  obtain ⟨pad, h⟩ := h
  exact ⟨pad, e.trans h⟩
theorem RowsP.behind {W W' : World} {lo k a : Nat} {f : Nat → List Nat} {vs : List Value} (h : RowsP W lo k f vs a) (hb : Below W.heap.size W W') : RowsP W' lo k f vs a := fun j hj => by
  obtain ⟨g, c, h1, h2, h3⟩ := h j hj
  exact ⟨g, c, h1, h2.blk (hb.block g h2.lt), h3⟩
theorem RowsP.keepV {W W' : World} {lo k a g0 : Nat} {f : Nat → List Nat} {vs LR : List Value} (h : RowsP W lo k f vs a) (ho : OnlyB g0 W W') (hg : HoldsV W g0 LR) : RowsP W' lo k f vs a := fun j hj => by
  obtain ⟨g, c, h1, h2, h3⟩ := h j hj
  exact ⟨g, c, h1, h2.blk (ho.block g h2.lt (ne_PV h2 hg)), h3⟩
theorem RowsP.snoc {W : World} {lo k a g c : Nat} {f : Nat → List Nat} {vs : List Value} (h : RowsP W lo k f vs a) (hl : vs.length = a) (hg : HoldsP W g (f a)) (hlo : lo < g) : RowsP W lo k f (vs ++ [.slice (some ⟨g, 0, none⟩) k c]) (a + 1) := fun j hj => by
  by_cases e : j = a
  · subst e
    exact ⟨g, c, by rw [List.getElem?_append_right (by omega), hl]; simp, hg, hlo⟩
  · obtain ⟨g2, c2, h1, h2, h3⟩ := h j (by omega)
    exact ⟨g2, c2, by rw [List.getElem?_append_left (by omega)]; exact h1, h2, h3⟩
theorem RowsP.usr {W : World} {lo k a g : Nat} {f : Nat → List Nat} {vs : List Value} (h : RowsP W lo k f vs a) (hl : vs.length = a) (hf : ∀ j, j < a → (f j).length = k) (hk : k ≤ maxLen) (hg : HoldsV W g vs) :
    UsR W W.heap.size (some ⟨g, 0, none⟩) a ((List.range a).map f) := by
  refine ⟨by simp, vs, ⟨by omega, fun _ => ⟨_, rfl, hg.lt, fun j u hu => ?_⟩⟩, fun j hj => ?_⟩
  · rw [addr0]
    have hj : j < vs.length := by
      rcases Nat.lt_or_ge j vs.length with h' | h'
      · exact h'
      · rw [List.getElem?_eq_none h'] at hu; cases hu
    rw [hg.cell j hj, List.getD_eq_getElem?_getD, hu]; rfl
  · obtain ⟨g2, c2, h1, h2, h3⟩ := h j hj
    have e : ((List.range a).map f).getD j [] = f j := by simp [hj]
    rw [e, hf j hj]
    have := h2.reads
    rw [hf j hj] at this
    exact ⟨_, _, h1, this, hk⟩
theorem six_at (w : World) (z0 z00 z o1 o2 o3 : Array Value) (T00 T01 T0 t1 t2 t3 : TypeId) :
    (((((((w.alloc (.cells z0 T00)).alloc (.cells z00 T01)).alloc (.cells z T0)).alloc (.cells o1 t1)).alloc (.cells o2 t2)).alloc (.cells o3 t3)).drew.heap[w.heap.size]? = some (.cells z0 T00 (0, 0))) ∧
    (((((((w.alloc (.cells z0 T00)).alloc (.cells z00 T01)).alloc (.cells z T0)).alloc (.cells o1 t1)).alloc (.cells o2 t2)).alloc (.cells o3 t3)).drew.heap[w.heap.size + 1]? = some (.cells z00 T01 (0, 0))) ∧
    (((((((w.alloc (.cells z0 T00)).alloc (.cells z00 T01)).alloc (.cells z T0)).alloc (.cells o1 t1)).alloc (.cells o2 t2)).alloc (.cells o3 t3)).drew.heap[w.heap.size + 1 + 1]? = some (.cells z T0 (0, 0))) ∧
    (((((((w.alloc (.cells z0 T00)).alloc (.cells z00 T01)).alloc (.cells z T0)).alloc (.cells o1 t1)).alloc (.cells o2 t2)).alloc (.cells o3 t3)).drew.heap[w.heap.size + 1 + 1 + 1]? = some (.cells o1 t1 (0, 0))) ∧
    (((((((w.alloc (.cells z0 T00)).alloc (.cells z00 T01)).alloc (.cells z T0)).alloc (.cells o1 t1)).alloc (.cells o2 t2)).alloc (.cells o3 t3)).drew.heap[w.heap.size + 1 + 1 + 1 + 1]? = some (.cells o2 t2 (0, 0))) ∧
    (((((((w.alloc (.cells z0 T00)).alloc (.cells z00 T01)).alloc (.cells z T0)).alloc (.cells o1 t1)).alloc (.cells o2 t2)).alloc (.cells o3 t3)).drew.heap[w.heap.size + 1 + 1 + 1 + 1 + 1]? = some (.cells o3 t3 (0, 0))) ∧
    Below w.heap.size w ((((((w.alloc (.cells z0 T00)).alloc (.cells z00 T01)).alloc (.cells z T0)).alloc (.cells o1 t1)).alloc (.cells o2 t2)).alloc (.cells o3 t3)).drew := by
  have h5 := five_at (w.alloc (.cells z0 T00)) z00 z o1 o2 o3 T01 T0 t1 t2 t3
  have sz : (w.alloc (.cells z0 T00)).heap.size = w.heap.size + 1 := by simp
  rw [sz] at h5
  obtain ⟨h1, h2, h3, h4, h6, hb⟩ := h5
  exact ⟨(hb.block _ (by omega)).trans (heap_alloc_new w _), h1, h2, h3, h4, h6, ((Below.refl _ w).alloc (Nat.le_refl _) _).trans (hb.mono (by omega))⟩
/-- both parameters and a result's cell -/
structure Rs2 (w wx : World) (na : Int) (a1 a2 : Value) (nb : Int) (b1 b2 : Value) : Prop where
  boxA : MBox wx w.heap.size na a1 a2
  boxB : MBox wx (w.heap.size + 1) nb b1 b2
  res : MBox wx (w.heap.size + 1 + 1) 0 (.slice none 0 0) (.slice none 0 0)
  below : Below w.heap.size w wx
theorem Rs2.keep {w wx wy : World} {na nb : Int} {a1 a2 b1 b2 : Value} (h : Rs2 w wx na a1 a2 nb b1 b2) (hb : Below wx.heap.size wx wy) : Rs2 w wy na a1 a2 nb b1 b2 :=
  ⟨(hb.block _ h.boxA.lt).trans h.boxA, (hb.block _ h.boxB.lt).trans h.boxB, (hb.block _ h.res.lt).trans h.res, h.below.trans (hb.mono h.below.size)⟩
theorem Rs2.made (w : World) (na : Int) (a1 a2 : Value) (nb : Int) (b1 b2 : Value) : Rs2 w (((w.alloc (.cells #[.int .i64 na, a1, a2] 25)).alloc (.cells #[.int .i64 nb, b1, b2] 25)).alloc (.cells #[.int .i64 0, .slice none 0 0, .slice none 0 0] 25)) na a1 a2 nb b1 b2 := by
  have h := BoxBox w na a1 a2 nb b1 b2
  have sz : ((w.alloc (.cells #[.int .i64 na, a1, a2] 25)).alloc (.cells #[.int .i64 nb, b1, b2] 25)).heap.size = w.heap.size + 1 + 1 := by simp
  have h3 := MBox.made ((w.alloc (.cells #[.int .i64 na, a1, a2] 25)).alloc (.cells #[.int .i64 nb, b1, b2] 25)) 0 (.slice none 0 0) (.slice none 0 0)
  rw [sz] at h3
  exact ⟨(Below.heap_alloc _ _ _ (by rw [sz]; omega)).trans h.1, (Below.heap_alloc _ _ _ (by rw [sz]; omega)).trans h.2.1, h3, h.2.2.alloc (by rw [sz]; omega) _⟩
theorem res_fin {w wx : World} (hr : MBox wx (w.heap.size + 1 + 1) 0 (.slice none 0 0) (.slice none 0 0)) (hb : Below w.heap.size w wx) (n' : Int) (b c : Value) :
    MBox (((wx.setCell ⟨w.heap.size + 1 + 1, 0, none⟩ (.int .i64 n')).setCell ⟨w.heap.size + 1 + 1, 1, none⟩ b).setCell ⟨w.heap.size + 1 + 1, 2, none⟩ c) (w.heap.size + 1 + 1) n' b c ∧
    Below w.heap.size w (((wx.setCell ⟨w.heap.size + 1 + 1, 0, none⟩ (.int .i64 n')).setCell ⟨w.heap.size + 1 + 1, 1, none⟩ b).setCell ⟨w.heap.size + 1 + 1, 2, none⟩ c) ∧
    OnlyB (w.heap.size + 1 + 1) wx (((wx.setCell ⟨w.heap.size + 1 + 1, 0, none⟩ (.int .i64 n')).setCell ⟨w.heap.size + 1 + 1, 1, none⟩ b).setCell ⟨w.heap.size + 1 + 1, 2, none⟩ c) := by
  have h3 := hr.set3 (n' := n') (b := b) (c := c)
  exact ⟨h3.1, hb.trans (h3.2.below (by omega) (by have := hr.lt; omega)), h3.2⟩
end Go.Proofs.YtofclgapgjcflaaDoor
