/- Layer 6: texts joined: Yo Yp Yq. -/
import Derived.Test.YtfbgabcdeecpoaaDoorNMj
import Derived.Deep.RegionLaw
import Derived.Deep.AppendLies
/- Layer 24: priors whose memory is of one's own. -/
namespace Go.Proofs.YtfbgabcdeecpoaaDoor
open Go.RowKit Go.Proofs.Ws
set_option maxRecDepth 100000
/-- a list of ints in a block of one's own -/
def OneZ (W : World) (base : Nat) (v : Value) (l : List Int) : Prop := ∃ g c, v = .slice (some ⟨g, 0, none⟩) l.length c ∧ base ≤ g ∧ HoldsJ W g l
theorem OneZ.keep {W W' : World} {base : Nat} {v : Value} {l : List Int} (h : OneZ W base v l) (hk : ∀ g, v.ownBlock = some g → W'.heap[g]? = W.heap[g]?) : OneZ W' base v l := by
  obtain ⟨g, c, rfl, hb, pad, hp⟩ := h
  exact ⟨g, c, rfl, hb, pad, (hk g rfl).trans hp⟩
theorem OneZ.below {W W' : World} {base : Nat} {v : Value} {l : List Int} (h : OneZ W base v l) (hb : Below W.heap.size W W') : OneZ W' base v l := by
  obtain ⟨g, c, rfl, h1, h2⟩ := h
  exact ⟨g, c, rfl, h1, h2.below hb h2.lt⟩
theorem OneZ.mono {W : World} {base b2 : Nat} {v : Value} {l : List Int} (h : OneZ W base v l) (hb : b2 ≤ base) : OneZ W b2 v l := by
  obtain ⟨g, c, rfl, h1, h2⟩ := h
  exact ⟨g, c, rfl, Nat.le_trans hb h1, h2⟩
theorem OneZ.reads {W : World} {base : Nat} {v : Value} {l : List Int} (h : OneZ W base v l) : ∃ A c, v = .slice A l.length c ∧ Reads W W.heap.size 1 A l.length (ints l) := by
  obtain ⟨g, c, rfl, h1, h2⟩ := h
  exact ⟨_, c, rfl, h2.reads⟩
theorem OneZ.one {W : World} {base : Nat} {v : Value} {l : List Int} (h : OneZ W base v l) : v.oneCell' = true := by
  obtain ⟨g, c, rfl, _, _⟩ := h
  rfl
/-- rows of ints in blocks of their own -/
def RowsZ (W : World) (base : Nat) (RV : Value) (m : Nat) (F : Nat → List Int) : Prop :=
  ∃ vs, W.ownsRow base 22 1 RV m vs ∧ ∀ j, j < m → ∃ u, vs[j]? = some u ∧ OneZ W base u (F j)
theorem RowsZ.nil (W : World) (base : Nat) (F : Nat → List Int) : RowsZ W base (.slice none 0 0) 0 F := ⟨[], World.ownsRow_nil _ _ _ _, fun j hj => absurd hj (by omega)⟩
theorem RowsZ.below {W W' : World} {base m : Nat} {RV : Value} {F : Nat → List Int} (h : RowsZ W base RV m F) (hb : Below W.heap.size W W') : RowsZ W' base RV m F := by
  obtain ⟨vs, h1, h2⟩ := h
  refine ⟨vs, own_keep1 h1 (fun g hg => hb.block g (h1.lt g hg).2), fun j hj => ?_⟩
  obtain ⟨u, e, h3⟩ := h2 j hj
  exact ⟨u, e, h3.below hb⟩
theorem RowsZ.mono {W : World} {base b2 m : Nat} {RV : Value} {F : Nat → List Int} (h : RowsZ W base RV m F) (hb : b2 ≤ base) : RowsZ W b2 RV m F := by
  obtain ⟨vs, h1, h2⟩ := h
  refine ⟨vs, own_base h1 hb, fun j hj => ?_⟩
  obtain ⟨u, e, h3⟩ := h2 j hj
  exact ⟨u, e, h3.mono hb⟩
theorem RowsZ.only {W W' : World} {base m g : Nat} {RV : Value} {F : Nat → List Int} (h : RowsZ W base RV m F) (ho : OnlyB g W W') (hg : ∀ cs fr, W.heap[g]? ≠ some (.cells cs 22 fr) ∧ W.heap[g]? ≠ some (.cells cs 3 fr)) : RowsZ W' base RV m F := by
  obtain ⟨vs, h1, h2⟩ := h
  refine ⟨vs, own_keep1 h1 (fun b hb => ho.block b (h1.lt b hb).2 (fun e => ?_)), fun j hj => ?_⟩
  · obtain ⟨cur, hc⟩ := own_type h1 hb
    rw [e] at hc
    exact (hg _ _).1 hc
  · obtain ⟨u, e, h3⟩ := h2 j hj
    refine ⟨u, e, ?_⟩
    obtain ⟨b, c, rfl, h4, pad, h5⟩ := h3
    refine ⟨b, c, rfl, h4, pad, (ho.block b (Array.getElem?_eq_some_iff.1 h5).1 (fun e2 => ?_)).trans h5⟩
    rw [e2] at h5
    exact (hg _ _).2 h5
theorem RowsZ.snoc {W w4 : World} {base m : Nat} {RV RV' : Value} {F : Nat → List Int} {u : Value} {o : Obj} {vs : List Value}
    (h1 : W.ownsRow base 22 1 RV m vs) (h2 : ∀ j, j < m → ∃ u, vs[j]? = some u ∧ OneZ W base u (F j)) (hr : OneZ W base u (F m))
    (hg : (W.alloc o).grownBy w4 RV.ownBlock) (ho : w4.ownsRow base 22 1 RV' (m + 1) (vs ++ [u])) : RowsZ w4 base RV' (m + 1) F := by
  have hvl : vs.length = m := by have := h1.1; omega
  have keep : ∀ (l : List Int) (u : Value), OneZ W base u l → OneZ w4 base u l := by
    intro l u hr
    refine hr.keep (fun g hgg => ?_)
    obtain ⟨b, c, rfl, h4, pad, h5⟩ := hr
    have e : b = g := by injection hgg
    subst e
    have hlt := (Array.getElem?_eq_some_iff.1 h5).1
    refine (hg.block b (Nat.lt_of_lt_of_le hlt (by simp)) (fun e => ?_)).trans (Below.heap_alloc W o b hlt)
    obtain ⟨cur, hc⟩ := own_type h1 e.symm
    rw [h5] at hc
    injection hc with hc
    injection hc with _ hc2
    exact absurd hc2 (by decide)
  refine ⟨_, ho, fun j hj => ?_⟩
  by_cases e : j = m
  · subst e
    exact ⟨u, by rw [List.getElem?_append_right (by omega), hvl, Nat.sub_self]; rfl, keep _ _ hr⟩
  · obtain ⟨u', e', h3⟩ := h2 j (by omega)
    exact ⟨u', by rw [List.getElem?_append_left (by omega)]; exact e', keep _ _ h3⟩
/-- another list at a place -/
theorem RowsZ.store {W : World} {base m g c k : Nat} {F G : Nat → List Int} {u : Value} (h : RowsZ W base (.slice (some ⟨g, 0, none⟩) m c) m F) (_hk : k < m) (hu : OneZ W base u (G k)) (hG : ∀ j, j ≠ k → G j = F j) :
    RowsZ (W.setCell ⟨g, k, none⟩ u) base (.slice (some ⟨g, 0, none⟩) m c) m G := by
  obtain ⟨vs, h1, h2⟩ := h
  have hvl : vs.length = m := by have := h1.1; omega
  have hst := h1.stored k u
  have keep : ∀ (l : List Int) (u' : Value), OneZ W base u' l → OneZ (W.setCell ⟨g, k, none⟩ u) base u' l := by
    intro l u' hr
    refine hr.keep (fun b hbb => ?_)
    obtain ⟨b2, c2, rfl, h4, pad, h5⟩ := hr
    have e : b2 = b := by injection hbb
    subst e
    have hlt := (Array.getElem?_eq_some_iff.1 h5).1
    refine hst.2.block b2 hlt (fun e => ?_)
    obtain ⟨cur, hc⟩ := own_type h1 (g := g) rfl
    have e2 : b2 = g := by injection e
    rw [← e2, h5] at hc
    injection hc with hc
    injection hc with _ hc2
    exact absurd hc2 (by decide)
  refine ⟨_, hst.1, fun j hj => ?_⟩
  by_cases e : j = k
  · subst e
    exact ⟨u, by rw [List.getElem?_set]; simp [hvl, hj], keep _ _ hu⟩
  · obtain ⟨u', e', h3⟩ := h2 j hj
    exact ⟨u', by rw [List.getElem?_set_ne (fun e2 => e e2.symm)]; exact e', by rw [hG j e]; exact keep _ _ h3⟩
theorem RowsZ.zsr {W : World} {base m : Nat} {RV : Value} {F : Nat → List Int} (h : RowsZ W base RV m F) (hF : ∀ j, j < m → (F j).length ≤ maxLen) : ∃ A c, RV = .slice A m c ∧ ZsR W W.heap.size A m ((List.range m).map F) := by
  obtain ⟨vs, h1, h2⟩ := h
  obtain ⟨A, c, rfl, hR⟩ := own_reads h1
  refine ⟨A, c, rfl, by simp, vs, hR, fun j hj => ?_⟩
  obtain ⟨u, e', h3⟩ := h2 j hj
  have e : ((List.range m).map F).getD j [] = F j := by simp [hj]
  rw [e]
  obtain ⟨A', c', rfl, hR'⟩ := h3.reads
  exact ⟨A', c', e', hR', hF j hj⟩
/-- a row's value is a slice, and what it shows -/
theorem RowsZ.form {W : World} {base m : Nat} {RV : Value} {F : Nat → List Int} (h : RowsZ W base RV m F) (hm : 0 < m) : ∃ g c, RV = .slice (some ⟨g, 0, none⟩) m c ∧ base ≤ g ∧ g < W.heap.size := by
  obtain ⟨vs, h1, _⟩ := h
  rcases h1.2 with ⟨_, h0⟩ | ⟨g, cap, cur, rfl, hb, hg, _⟩
  · omega
  · exact ⟨g, cap, rfl, hb, (Array.getElem?_eq_some_iff.1 hg).1⟩
/-- a prior that is one's own -/
structure PrO (W : World) (base : Nat) (v : Value) (p : Pri) : Prop where
  ex : ∃ V1 V2, v = .agg #[V1, V2] ∧ OneZ W base V1 p.wt ∧ RowsZ W base V2 p.cells.length (fun j => p.cells.getD j [])
theorem PrO.below {W W' : World} {base : Nat} {v : Value} {p : Pri} (h : PrO W base v p) (hb : Below W.heap.size W W') : PrO W' base v p := by
  obtain ⟨V1, V2, e, h1, h2⟩ := h.ex
  exact ⟨V1, V2, e, h1.below hb, h2.below hb⟩
theorem PrO.mono {W : World} {base b2 : Nat} {v : Value} {p : Pri} (h : PrO W base v p) (hb : b2 ≤ base) : PrO W b2 v p := by
  obtain ⟨V1, V2, e, h1, h2⟩ := h.ex
  exact ⟨V1, V2, e, h1.mono hb, h2.mono hb⟩
theorem range_getD {α : Type} (l : List α) (d : α) : (List.range l.length).map (fun j => l.getD j d) = l := by
  apply List.ext_getElem
  · simp
  · intro i h1 h2
    simp [h2]
theorem PrO.prr {W : World} {base : Nat} {v : Value} {p : Pri} (h : PrO W base v p) (hok : OkP p) : PrR W W.heap.size v p := by
  obtain ⟨V1, V2, e, h1, h2⟩ := h.ex
  obtain ⟨A1, c1, rfl, hR1⟩ := h1.reads
  have hle := hok.le
  have hag := hok.ag
  obtain ⟨A2, c2, rfl, hR2⟩ := h2.zsr (fun j hj => by rw [(hok.can hj).len]; unfold maxLen; omega)
  rw [range_getD] at hR2
  exact ⟨⟨A1, c1, A2, c2, e, hR1, hR2⟩, ⟨by unfold maxLen; omega, by unfold maxLen; omega⟩⟩
theorem Tryd.infoZ : (Tryd.prog.info? 22).map (fun i => (i.zero, i.size, i.bytes)) = some (some (.slice none 0 0), 1, 24) := by kernel_rfl
/-- a list is appended to rows -/
theorem step_appZ {ops : Array Oper} {o : Oper} {a : Act} {K : Act → World → Prop} {Q : Exit → Act → World → Prop} {E : Prop} {vs : List Value} (n : Nat) (u : Value) (W : World) (hgd : o.guard = none) (s x : Operand)
    (ho : o.op = .call { callee := .builtin .append, args := #[s, x], argTypes := #[23, 23] }) (base b : Nat) (V : Value)
    (hs : a.eval s = V) (hown : W.ownsRow base 22 1 V n vs) (hx : a.eval x = .slice (some ⟨b, 0, none⟩) 1 1)
    (hc : W.cell? ⟨b, 0, none⟩ = some u) (hu : u.oneCell' = true) (hl : n ≤ 1000000) (hbase : base ≤ W.heap.size)
    (h : ∀ g cap w', w'.ownsRow base 22 1 (.slice (some ⟨g, 0, none⟩) (n + 1) cap) (n + 1) (vs ++ [u]) → W.grownBy w' V.ownBlock → (V.ownBlock = some g ∨ W.heap.size ≤ g) → g < w'.heap.size → K (a.put o.dst (.slice (some ⟨g, 0, none⟩) (n + 1) cap)) w') :
    if Region.wanted o (yielded ops a.tmps) = true then Oper.wp Tryd.prog o a W K Q else E := by
  obtain ⟨i0, hi, hz0, hz1, hz2⟩ := info_parts Tryd.infoZ
  refine step_append_lies W hgd s x 23 ho base 22 i0 _ 1 24 Tryd.underlying23 hi hz0 hz1 hz2 rfl (by decide) V n vs hs hown ⟨b, 0, none⟩ 1 1 [u] hx rfl ?_ ?_ (by decide) (by unfold maxLen; omega) (by omega) hbase _ rfl ?_
  · intro j u' hj
    cases j with
    | zero => simp at hj; subst hj; exact hc
    | succ j => simp at hj
  · intro u' hu'
    rw [List.mem_singleton.1 hu']; exact hu
  · intro g cap w' h1 h2 h3 h4
    exact h g cap w' h1 h2 (h3.imp id (fun e => by omega)) h4
end Go.Proofs.YtfbgabcdeecpoaaDoor
/- Layer 24: a copy of a prior by the program. -/
namespace Go.Proofs.YtfbgabcdeecpoaaDoor
open Go.RowKit Go.Proofs.Ws
set_option maxRecDepth 100000
theorem PBox.other {W W' : World} {g g' : Nat} {v1 v2 : Value} (h : PBox W g v1 v2) (ho : OnlyB g' W W') (hne : g ≠ g') : PBox W' g v1 v2 := (ho.block g h.lt hne).trans h
theorem PBox.grown {W W' : World} {g : Nat} {v1 v2 : Value} {row : Option Nat} (h : PBox W g v1 v2) (hg : W.grownBy W' row) (hne : row ≠ some g) : PBox W' g v1 v2 := (hg.block g h.lt (fun e => hne e.symm)).trans h
theorem PBox.notRow {W : World} {g n size base : Nat} {v1 v2 V : Value} {e : TypeId} {xs : List Value} (h : PBox W g v1 v2) (ho : W.ownsRow base e size V n xs) (hne : 25 ≠ e) : V.ownBlock ≠ some g := fun h2 => by
  obtain ⟨cur, hc⟩ := own_type ho h2
  unfold PBox at h
  rw [h] at hc
  injection hc with hc
  injection hc with _ hc2
  exact hne hc2
theorem PBox.noInt {W : World} {g : Nat} {v1 v2 : Value} (h : PBox W g v1 v2) (cs : Array Value) (fr : Nat × Nat) : W.heap[g]? ≠ some (.cells cs 22 fr) ∧ W.heap[g]? ≠ some (.cells cs 3 fr) := by
  unfold PBox at h
  rw [h]
  refine ⟨fun e => ?_, fun e => ?_⟩ <;> (injection e with e; injection e with _ e2; exact absurd e2 (by decide))
theorem OneZ.only {W W' : World} {base g : Nat} {v : Value} {l : List Int} (h : OneZ W base v l) (ho : OnlyB g W W') (hg : ∀ cs fr, W.heap[g]? ≠ some (.cells cs 3 fr)) : OneZ W' base v l := by
  obtain ⟨b, c, rfl, h4, pad, h5⟩ := h
  refine ⟨b, c, rfl, h4, pad, (ho.block b (Array.getElem?_eq_some_iff.1 h5).1 (fun e2 => ?_)).trans h5⟩
  rw [e2] at h5
  exact hg _ _ h5
theorem OneZ.grown {W W' : World} {base b2 n size : Nat} {v V : Value} {l : List Int} {e : TypeId} {xs : List Value} (h : OneZ W base v l) (hg : W.grownBy W' V.ownBlock) (ho : W.ownsRow b2 e size V n xs) (hne : e ≠ 3) : OneZ W' base v l := by
  obtain ⟨b, c, rfl, h4, pad, h5⟩ := h
  refine ⟨b, c, rfl, h4, pad, (hg.block b (Array.getElem?_eq_some_iff.1 h5).1 (fun e2 => ?_)).trans h5⟩
  obtain ⟨cur, hc⟩ := own_type ho e2.symm
  rw [h5] at hc
  injection hc with hc
  injection hc with _ hc2
  exact hne hc2.symm
theorem OnlyB.grown {W W' : World} {g : Nat} (h : OnlyB g W W') : W.grownBy W' (some g) := ⟨h.os, h.tape, h.output, h.size, fun k hk hn => h.block k hk (fun e => hn (by rw [e]))⟩
theorem PBox.appended {w9 w5 : World} {o : Obj} {G n size base : Nat} {v1 v2 V : Value} {e : TypeId} {xs : List Value} (h : PBox w9 G v1 v2) (ho : w9.ownsRow base e size V n xs) (hne : 25 ≠ e) (hg : (w9.alloc o).grownBy w5 V.ownBlock) : PBox w5 G v1 v2 :=
  PBox.grown (W := w9.alloc o) ((Below.heap_alloc w9 o G h.lt).trans h) hg (h.notRow ho hne)
theorem OneZ.appended {w9 w5 : World} {o : Obj} {b2 n size base : Nat} {v V : Value} {l : List Int} {e : TypeId} {xs : List Value} (h : OneZ w9 base v l) (ho : w9.ownsRow b2 e size V n xs) (hne : e ≠ 3) (hg : (w9.alloc o).grownBy w5 V.ownBlock) : OneZ w5 base v l :=
  OneZ.grown (W := w9.alloc o) (h.below ((Below.refl _ w9).alloc (Nat.le_refl _) o)) hg (ho.alloc o) hne
/-- behind the store of a prior into a box -/
theorem PBox.set2 {W : World} {g : Nat} {v1 v2 : Value} (h : PBox W g v1 v2) (x y : Value) : PBox ((W.setCell ⟨g, 0, none⟩ x).setCell ⟨g, 1, none⟩ y) g x y ∧ OnlyB g W ((W.setCell ⟨g, 0, none⟩ x).setCell ⟨g, 1, none⟩ y) :=
  ⟨(h.set0 x).set1 y, (OnlyB.set g 0 W x).trans (OnlyB.set g 1 _ y)⟩
set_option maxHeartbeats 4000000 in
theorem aClone_any (p : Pri) (v : Value) (w : World) (hM : PrR w w.heap.size v p) (hok : OkP p) :
    Calls Tryd.prog 63 #[v] w fun e w' => ∃ v', e = .returned v' ∧ PrO w' w.heap.size v' p ∧ Below w.heap.size w w' := by
  obtain ⟨A1, c1, A2, c2, rfl, hv, hr⟩ := hM.ex
  have hle := hok.le
  have hpos := hok.pos
  have hag := hok.ag
  have HB1 : Hid (Below w.heap.size w ((w.alloc (.cells #[.slice A1 p.wt.length c1, .slice A2 p.cells.length c2] 25)).alloc (.cells #[.slice none 0 0, .slice none 0 0] 25))) := Lib.hid (((Below.refl _ w).alloc (Nat.le_refl _) _).alloc (by simp) _)
  have HPB : Hid (PBox ((w.alloc (.cells #[.slice A1 p.wt.length c1, .slice A2 p.cells.length c2] 25)).alloc (.cells #[.slice none 0 0, .slice none 0 0] 25)) w.heap.size (.slice A1 p.wt.length c1) (.slice A2 p.cells.length c2)) := Lib.hid ((Below.heap_alloc _ _ _ (PBox.made w _ _).lt).trans (PBox.made w _ _))
  have HPR : Hid (PBox ((w.alloc (.cells #[.slice A1 p.wt.length c1, .slice A2 p.cells.length c2] 25)).alloc (.cells #[.slice none 0 0, .slice none 0 0] 25)) (w.heap.size + 1) (.slice none 0 0) (.slice none 0 0)) := Lib.hid (by
    have := PBox.made (w.alloc (.cells #[.slice A1 p.wt.length c1, .slice A2 p.cells.length c2] 25)) (.slice none 0 0) (.slice none 0 0)
    simpa using this)
  have HCW := Lib.hid (fun (W : World) (hb : Below w.heap.size w W) => cloneI_any p.wt A1 p.wt.length c1 W ((hv.below hb).more hb.size) hle)
  have HCC : Hid (∀ k, k < p.cells.length → ∃ ad Ak ck, A2 = some ad ∧ ad.block < w.heap.size ∧ (∀ W, Below w.heap.size w W → W.cell? (ad.add k) = some (.slice Ak p.wt.length ck) ∧ Calls Tryd.prog 71 #[.slice Ak p.wt.length ck] W fun e w' => ∃ A' c', e = .returned (.slice A' p.wt.length c') ∧ (0 < p.wt.length → ∃ g, A' = some ⟨g, 0, none⟩ ∧ W.heap.size ≤ g ∧ HoldsJ w' g (p.cells.getD k [])) ∧ Below W.heap.size W w')) := Lib.hid (fun k hk => by
    obtain ⟨ad, Ak, ck, hA, had, hcell, hrc, hlc⟩ := hr.at_ hk
    rw [(hok.can hk).len] at hcell hrc hlc
    exact ⟨ad, Ak, ck, hA, had, fun W hb => ⟨(hb.cell (p := ad.add k) (by rw [block_of_add]; exact had)).trans hcell, cloneI_any _ Ak p.wt.length ck W ((hrc.below hb).more hb.size) hle⟩⟩)
  have HLC : Hid (∀ k, k < p.cells.length → (p.cells.getD k []).length = p.wt.length) := Lib.hid (fun k hk => (hok.can hk).len)
  have HEX : Hid (∀ W base v, (∃ V1 V2, v = .agg #[V1, V2] ∧ OneZ W base V1 p.wt ∧ RowsZ W base V2 p.cells.length (fun j => p.cells.getD j [])) → PrO W base v p) := Lib.hid (fun W base v h => ⟨h⟩)
  clear hM hv hr hok
  generalize hF : (fun j => p.cells.getD j []) = F at *
  have HFE : Hid (∀ j, p.cells.getD j [] = F j) := Lib.hid (fun j => by rw [← hF])
  simp only [HFE.out] at HCC HLC
  clear hF HFE
  generalize hWT : p.wt = WT at *
  generalize hn : WT.length = n at *
  have HN := Lib.hid hn
  generalize p.cells.length = m at *
  clear hn hWT
  go_enter Tryd.func63, Tryd.ntmps63
  go_wp2_with fail
  generalize (w.alloc (.cells #[.slice A1 n c1, .slice A2 m c2] 25)).alloc (.cells #[.slice none 0 0, .slice none 0 0] 25) = w1 at *
  refine (HCW.out _ HB1.out).mono ?_
  rintro e w2 ⟨A9, c9, rfl, hJ, hb2⟩
  obtain ⟨g1, rfl, hg1, hJ1⟩ := hJ hpos
  have hO1 : OneZ w2 (w.heap.size + 2) (.slice (some ⟨g1, 0, none⟩) n c9) WT := ⟨g1, c9, by rw [HN.out], by have := HPR.out.lt; omega, hJ1⟩
  have HB3 : Hid (Below w.heap.size w (w2.alloc (.cells #[.slice (some ⟨g1, 0, none⟩) n c9, .slice none 0 0] 25))) := Lib.hid ((belowNext HB1.out hb2).alloc (belowNext HB1.out hb2).size _)
  have hba : Below w2.heap.size w2 (w2.alloc (.cells #[.slice (some ⟨g1, 0, none⟩) n c9, .slice none 0 0] 25)) := (Below.refl _ w2).alloc (Nat.le_refl _) _
  have HP3 : Hid (PBox (w2.alloc (.cells #[.slice (some ⟨g1, 0, none⟩) n c9, .slice none 0 0] 25)) w.heap.size (.slice A1 n c1) (.slice A2 m c2)) := Lib.hid ((HPB.out.below hb2 HPB.out.lt).below hba (HPB.out.below hb2 HPB.out.lt).lt)
  have HR3 : Hid (PBox (w2.alloc (.cells #[.slice (some ⟨g1, 0, none⟩) n c9, .slice none 0 0] 25)) (w.heap.size + 1) (.slice none 0 0) (.slice none 0 0)) := Lib.hid ((HPR.out.below hb2 HPR.out.lt).below hba (HPR.out.below hb2 HPR.out.lt).lt)
  have HQ3 : Hid (PBox (w2.alloc (.cells #[.slice (some ⟨g1, 0, none⟩) n c9, .slice none 0 0] 25)) w2.heap.size (.slice (some ⟨g1, 0, none⟩) n c9) (.slice none 0 0)) := Lib.hid (PBox.made w2 _ _)
  have HO3 : Hid (OneZ (w2.alloc (.cells #[.slice (some ⟨g1, 0, none⟩) n c9, .slice none 0 0] 25)) (w.heap.size + 2) (.slice (some ⟨g1, 0, none⟩) n c9) WT) := Lib.hid (hO1.below hba)
  have hGs : w.heap.size + 2 ≤ w2.heap.size := by have := (HPR.out.below hb2 HPR.out.lt).lt; omega
  clear hba hb2 hJ hJ1 hO1 hg1 HB1 HPB HPR HCW
  have b0 := HP3.out.c0
  have b1 := HP3.out.c1
  go_wp2
  generalize w2.alloc (.cells #[.slice (some ⟨g1, 0, none⟩) n c9, .slice none 0 0] 25) = w3 at *
  generalize w2.heap.size = G at *
  go_loopw [5, 13] (fun _ i wr => ∃ (k : Nat) (RV : Value), k ≤ m ∧ i = .int .i64 (k : Int) ∧ Hid (Below w.heap.size w wr ∧ PBox wr w.heap.size (.slice A1 n c1) (.slice A2 m c2) ∧ PBox wr (w.heap.size + 1) (.slice none 0 0) (.slice none 0 0) ∧ PBox wr G (.slice (some ⟨g1, 0, none⟩) n c9) RV ∧ OneZ wr (w.heap.size + 2) (.slice (some ⟨g1, 0, none⟩) n c9) WT ∧ RowsZ wr (w.heap.size + 2) RV k F)) (fun _ i _ => m - (intOf i).toNat)
  case atStart => exact ⟨0, .slice none 0 0, Nat.zero_le _, rfl, Lib.hid ⟨HB3.out, HP3.out, HR3.out, HQ3.out, HO3.out, RowsZ.nil _ _ _⟩⟩
  case round =>
    clear b0 b1
    obtain ⟨k, RV, hk, rfl, HI⟩ := hrel
    obtain ⟨hI1, hI2, hI3, hI4, hI5, hI6⟩ := HI.out
    by_cases hlt : k < m
    · obtain ⟨ad, Ak, ck, rfl, had, hW⟩ := HCC.out k hlt
      have hcell := (hW wr hI1).1
      have hlen := HLC.out k hlt
      obtain ⟨vs, hvs, hvr⟩ := hI6
      obtain ⟨AR, cR, rfl⟩ := own_sl hvs
      have HS := Lib.hid (⟨hI1, hI2, hI3, hI4, hI5⟩ : _ ∧ _ ∧ _ ∧ _ ∧ _)
      have HVS := Lib.hid hvs
      have HVR := Lib.hid hvr
      have b0 := hI2.c0
      have b1 := hI2.c1
      have q1 := hI4.c1
      have HCL := Lib.hid (fun W (hb : Below wr.heap.size wr W) => (hW W (belowNext hI1 hb)).2)
      have HQX : Hid (∀ W, Below wr.heap.size wr W → PBox W G (.slice (some ⟨g1, 0, none⟩) n c9) (.slice AR k cR)) := Lib.hid (fun W hb => hI4.below hb hI4.lt)
      have hd0 : Below wr.heap.size wr wr.drew := (Below.refl _ wr).drew
      have hszr : w.heap.size + 2 ≤ wr.heap.size := by have := hI4.lt; omega
      clear HI hI1 hI2 hI3 hI4 hI5 hvs hvr hW
      go_wp2
      go_region_law (first
        | (go_simp; go_at_call 71; refine (HCL.out _ ?_).mono ?_; assumption; rintro e w9 ⟨A8, c8, rfl, hJ8, hb9⟩; obtain ⟨g8, rfl, hg8, hH8⟩ := hJ8 hpos; have hc9 : Below wr.heap.size wr w9 := (by refine belowNext ?_ hb9; assumption); have HO9 := Lib.hid (own_keep1 HVS.out (fun g hg => hc9.block g (HVS.out.lt g hg).2)); have q9 := (HQX.out w9 hc9).c1; have q9b : ∀ o, (w9.alloc o).cell? ⟨G, 1, none⟩ = some (.slice AR k cR) := (fun o => (World.cell?_alloc_lt w9 o ⟨G, 1, none⟩ (HQX.out w9 hc9).lt).trans (HQX.out w9 hc9).c1); have hszo : ∀ o, w.heap.size + 2 ≤ (w9.alloc o).heap.size := (fun o => by have h8 := hc9.size; have h7 : (w9.alloc o).heap.size = w9.heap.size + 1 := (by simp); omega); have HH8 := Lib.hid hH8; clear hb9 hJ8)
        | (refine step_appZ (vs := vs) k (.slice (some ⟨g8, 0, none⟩) n c8) _ (by rfl) _ _ (by rfl) (w.heap.size + 2) _ _ (by rfl) (HO9.out.alloc _) (by rfl) (by go_simp) rfl (by omega) (hszo _) ?_; intro g5 c5 w5 ho5 hgr hr5 hl5; have HQ5 := Lib.hid ((HQX.out w9 hc9).appended HO9.out (by decide) hgr); have q5 := HQ5.out.c1; have f5 := HQ5.out.free 1))
      all_goals
        have hc9' : Below wr.heap.size wr (w9.alloc (.cells #[.slice (some ⟨g8, 0, none⟩) n c8] 22)) := hc9.alloc hc9.size _
        have hb5 : Below (w.heap.size + 2) wr w5 := (hc9'.mono hszr).grown hgr (Nat.le_trans hszr hc9'.size) (fun j hj => (HO9.out.lt j hj).1)
        have hR5 : RowsZ w5 (w.heap.size + 2) (.slice (some ⟨g5, 0, none⟩) (k + 1) c5) (k + 1) F := RowsZ.snoc HO9.out (fun j hj => by
          obtain ⟨u, e, h⟩ := HVR.out j hj
          exact ⟨u, e, h.below hc9⟩) ⟨g8, c8, by rw [hlen], Nat.le_trans hszr hg8, HH8.out⟩ hgr ho5
        have hO5 := (HS.out.2.2.2.2.below hc9).appended HO9.out (by decide) hgr
        have hP5 := (HS.out.2.1.below hc9 HS.out.2.1.lt).appended HO9.out (by decide) hgr
        have hr5' := (HS.out.2.2.1.below hc9 HS.out.2.2.1.lt).appended HO9.out (by decide) hgr
        have hB5 := HS.out.1.trans (hb5.mono (Nat.le_add_right _ _))
        have ho := OnlyB.set G 1 w5 (.slice (some ⟨g5, 0, none⟩) (k + 1) c5)
        have hZ := Lib.hid (⟨hB5.trans (ho.below (by omega) hB5.size), hP5.other ho (by omega), hr5'.other ho (by omega), HQ5.out.set1 (.slice (some ⟨g5, 0, none⟩) (k + 1) c5), hO5.only ho (fun cs fr => (HQ5.out.noInt cs fr).2), hR5.only ho HQ5.out.noInt⟩ : _ ∧ _ ∧ _ ∧ _ ∧ _ ∧ _)
        clear hc9' hb5 hR5 hO5 hP5 hr5' hB5 ho q5 f5 ho5 hgr hr5 hl5
        generalize w5.setCell ⟨G, 1, none⟩ (.slice (some ⟨g5, 0, none⟩) (k + 1) c5) = w6 at *
        go_wp2
        go_roundw
        case rel => exact ⟨k + 1, _, by omega, by go_num, hZ⟩
        case measure => first | (simp [intOf]; done) | (simp [intOf]; omega)
    · obtain rfl : k = m := by omega
      have HS := Lib.hid (⟨hI1, hI3, hI4, hI5, hI6⟩ : _ ∧ _ ∧ _ ∧ _ ∧ _)
      obtain ⟨vs, hvs, _⟩ := hI6
      obtain ⟨AR, cR, rfl⟩ := own_sl hvs
      have q0 := hI4.c0
      have q1 := hI4.c1
      have r0 := hI3.c0
      have r1 := hI3.c1
      have f0 := hI3.free 0
      have f1 := hI3.free 1
      clear HI hI1 hI2 hI3 hI4 hI5 hvs
      go_wp2
      have HZ := Lib.hid (HS.out.2.1.set2 (.slice (some ⟨g1, 0, none⟩) n c9) (.slice AR k cR))
      clear q0 q1 r0 r1 f0 f1
      generalize ((wr.setCell ⟨w.heap.size + 1, 0, none⟩ (.slice (some ⟨g1, 0, none⟩) n c9)).setCell ⟨w.heap.size + 1, 1, none⟩ (.slice AR k cR)) = w7 at *
      (try simp only [Exit.inBlock, Exit.then])
      refine bodyPost_ret (ret_cell1 rfl _ _ (w.heap.size + 1) _ _ _ _ rfl HZ.out.1 Tryd.underlying25 rfl (by kernel_rfl)) rfl ?_
      refine ⟨_, rfl, HEX.out _ _ _ ⟨_, _, rfl, (HS.out.2.2.2.1.only HZ.out.2 (fun cs fr => (HS.out.2.1.noInt cs fr).2)).mono (Nat.le_add_right _ _), (HS.out.2.2.2.2.only HZ.out.2 HS.out.2.1.noInt).mono (Nat.le_add_right _ _)⟩, HS.out.1.trans (HZ.out.2.below (Nat.le_succ _) HS.out.1.size)⟩
end Go.Proofs.YtfbgabcdeecpoaaDoor
/- Layer 24: Split, with its memory. -/
namespace Go.Proofs.YtfbgabcdeecpoaaDoor
open Go.RowKit Go.Proofs.Ws Go.Maps
set_option maxRecDepth 100000 in
set_option maxHeartbeats 4000000 in
theorem aSplit_own (a b : List Int) (A A2 : Option Addr) (n c c2 : Nat) (w : World) (hR : Reads w w.heap.size 1 A n (ints a)) (hR2 : Reads w w.heap.size 1 A2 n (ints b)) (hm : n ≤ maxLen) (wa : WFs a) (wb : WFs b) (h0 : partErr a = 0) :
    Calls Tryd.prog 79 #[.slice A n c, .slice A2 n c2] w fun e w' => ∃ g, e = .returned (.tuple #[.slice (some ⟨g, 0, none⟩) n n, .int .i64 0]) ∧ w.heap.size ≤ g ∧ HoldsI w' g (canonL a b) ∧ Below w.heap.size w w' := by
  have hl := hR.int_len
  have hl2 := hR2.int_len
  obtain ⟨h64, _⟩ := part_of hl h0
  have HC := Lib.hid (pCheck_any a A n c _ w hR hm)
  rw [h0] at HC
  have HR := Lib.hid hR
  have HR2 := Lib.hid hR2
  have HWA := Lib.hid wa
  have HWB := Lib.hid wb
  have hmk := fun W => makeI W n (by omega)
  have hmm := @run_makeMap Tryd.prog
  have HLEN := Lib.hid hl
  clear hR hR2 wa wb h0 hl hl2
  go_enter Tryd.func79, Tryd.ntmps79
  go_wp2_with fail
  refine (HC.out).mono ?_
  rintro e w' ⟨rfl, rfl⟩
  have HI0 : Hid (MapIs a b 0 (.map []) ∧ HoldsI ((w.alloc (.map #[] 0)).alloc (.cells (ints (List.replicate n 0)).toArray 3)) (w.heap.size + 1) (qL a b n 0) ∧ Below w.heap.size w ((w.alloc (.map #[] 0)).alloc (.cells (ints (List.replicate n 0)).toArray 3))) := Lib.hid ⟨MapIs.start a b, by
      have e : qL a b n 0 = List.replicate n 0 := by
        apply List.ext_getElem
        · simp [qL]
        · intro i h1 h2; simp [qL]
      rw [e]
      have := HoldsI.made (w.alloc (.map #[] 0)) (List.replicate n 0)
      simpa using this, ((Below.refl _ w).alloc (Nat.le_refl _) _).alloc (by simp) _⟩
  have hown0 : ((w.alloc (.map #[] 0)).alloc (.cells (ints (List.replicate n 0)).toArray 3)).ownsMap Tryd.prog 96 (plainElem (H := Unit) Tryd.prog 3) w.heap.size 0 (.map []) :=
    (World.ownsMap_made w Tryd.prog 96 (plainElem (H := Unit) Tryd.prog 3)).kept (World.grownBy_alloc _ _ none) (by simp)
  go_wp2
  clear hmk hmm
  generalize (w.alloc (.map #[] 0)).alloc (.cells (ints (List.replicate n 0)).toArray 3) = wx at *
  go_loopw [30] (fun i wr => ∃ (k : Nat) (D : DataW Unit), k ≤ n ∧ i = .int .i64 k ∧ wr.ownsMap Tryd.prog 96 (plainElem (H := Unit) Tryd.prog 3) w.heap.size k D ∧ Hid (MapIs a b k D ∧ HoldsI wr (w.heap.size + 1) (qL a b n k) ∧ Below w.heap.size w wr)) (fun i _ => n - (intOf i).toNat)
  case atStart => exact ⟨0, .map [], Nat.zero_le _, rfl, hown0, HI0⟩
  case round =>
    clear HI0 hown0
    obtain ⟨k, D, hk, rfl, hown, HI⟩ := hrel
    by_cases hlt : k < n
    · obtain ⟨ad, rfl, _, hc⟩ := (HR.out.below HI.out.2.2).int_at hlt
      obtain ⟨ad2, rfl, _, hc2⟩ := (HR2.out.below HI.out.2.2).int_at hlt
      have hkey := key_at (HWA.out k) (HWB.out k)
      have hGlt := HI.out.2.1.lt
      have HQ : Hid (∀ W, HoldsI W (w.heap.size + 1) (qL a b n k) → HoldsI (W.setCell ⟨w.heap.size + 1, k, none⟩ (.int .i64 (firstAt a b k : Int))) (w.heap.size + 1) (qL a b n (k + 1))) := Lib.hid (fun W hW => by
        have := hW.put k (firstAt a b k : Int)
        rw [qL_set a b n k hlt] at this
        exact this)
      have hqlen : (qL a b n k).length = n := by simp [qL]
      by_cases hs : ∃ j, j < k ∧ sameAt a b k j = true
      · have hh := (HI.out.1.there k).2 hs
        have HAT : Hid (∀ c : Int, D.atKey (keyL (a.getD k 0) (b.getD k 0)) (.lit (.int .i64 0)) = .lit (.int .i64 c) → c = (firstAt a b k : Int)) := Lib.hid (fun c hc => by
          obtain ⟨j, hj, hsj⟩ := hs
          rw [HI.out.1.at_ k j hj hsj] at hc
          injection hc with h1
          injection h1 with _ h2
          exact h2.symm)
        have HM : Hid (MapIs a b (k + 1) D) := Lib.hid (HI.out.1.old hs)
        have HH : Hid (HoldsI wr (w.heap.size + 1) (qL a b n k) ∧ Below w.heap.size w wr) := Lib.hid HI.out.2
        have hcq : wr.cell? ⟨w.heap.size + 1, k, none⟩ = some (.int .i64 ((qL a b n k).getD k 0)) := HI.out.2.1.cell k (by omega)
        have hfq : wr.frozen? ⟨w.heap.size + 1, k, none⟩ = false := HI.out.2.1.free k
        have hown1 : ∀ o, (wr.alloc o).ownsMap Tryd.prog 96 (plainElem (H := Unit) Tryd.prog 3) w.heap.size k D := fun o => ownsMap_alloc hown o
        have HOWN := Lib.hid hown
        have hsz := HI.out.2.2.size
        clear hs HI hown
        generalize (qL a b n k).getD k 0 = old at *
        generalize a.getD k 0 = x at *
        generalize b.getD k 0 = y at *
        go_wp2_with (first
          | (at_lookup; refine wpList_lookup_own_ok_int _ rfl _ _ 94 rfl 96 3 .i64 partLaw Tryd.underlying94 Tryd.underlying3 (zeroI _) w.heap.size k D rfl (hown1 _) _ _ rfl hkey ?_; intro c0 hat0 hwc0)
          | (at_lookup; refine wpList_lookup_own_int _ rfl _ _ 94 rfl 96 3 .i64 partLaw Tryd.underlying94 Tryd.underlying3 (zeroI _) w.heap.size k D rfl (hown1 _) _ _ rfl hkey ?_; intro c1 hat1 hwc1; obtain rfl := HAT.out c1 hat1))
        go_roundw
        case rel => exact ⟨k + 1, D, by omega, by go_num, (ownsMap_alloc (ownsMap_set HOWN.out _ _ _ (by omega)) _).mono (by omega), Lib.hid ⟨HM.out, (HQ.out wr HH.out.1).alloc _, (HH.out.2.setCell (p := ⟨w.heap.size + 1, k, none⟩) (by show w.heap.size ≤ w.heap.size + 1; omega) _).alloc (by simp; omega) _⟩⟩
        case measure => simp [intOf]; omega
      · have hh : Maps.has D (keyL (a.getD k 0) (b.getD k 0)) = false := by
          cases h : Maps.has D (keyL (a.getD k 0) (b.getD k 0))
          · rfl
          · exact absurd ((HI.out.1.there k).1 h) hs
        have hnew := HI.out.1.new HWA.out HWB.out hs
        have hf1 : firstAt a b k = k := firstAt_unique a b k k (sameAt_self a b k) (fun j hj => by
          cases h : sameAt a b k j
          · rfl
          · exact absurd ⟨j, hj, h⟩ hs)
        have HAT : Hid (∀ c : Int, (D.put (keyL (a.getD k 0) (b.getD k 0)) (.lit (.int .i64 (k : Int)))).atKey (keyL (a.getD k 0) (b.getD k 0)) (.lit (.int .i64 0)) = .lit (.int .i64 c) → c = (k : Int)) := Lib.hid (fun c hc => by
          rw [hnew.at_ k k (by omega) (sameAt_self a b k), hf1] at hc
          injection hc with h1
          injection h1 with _ h2
          exact h2.symm)
        rw [hf1] at HQ
        have HM := Lib.hid hnew
        have HH : Hid (HoldsI wr (w.heap.size + 1) (qL a b n k) ∧ Below w.heap.size w wr) := Lib.hid HI.out.2
        have hown1 : ∀ o, (wr.alloc o).ownsMap Tryd.prog 96 (plainElem (H := Unit) Tryd.prog 3) w.heap.size k D := fun o => ownsMap_alloc hown o
        have hsz := HI.out.2.2.size
        clear hs HI hown hnew hf1
        generalize a.getD k 0 = x at *
        generalize b.getD k 0 = y at *
        go_wp2_with (first
          | (at_lookup; refine wpList_lookup_own_ok_int _ rfl _ _ 94 rfl 96 3 .i64 partLaw Tryd.underlying94 Tryd.underlying3 (zeroI _) w.heap.size k D rfl (hown1 _) _ _ rfl hkey ?_; intro c0 hat0 hwc0)
          | (at_mapUpdate; refine wpList_mapUpdate_own _ rfl _ _ _ 94 rfl 96 3 partLaw Tryd.underlying94 _ w.heap.size k D rfl (hown1 _) (by unfold maxLen; omega) _ _ _ rfl rfl hkey _ [] (plainElem_int Tryd.underlying3 (WalkArith.wf_i64 (by omega))) ?_))
        intro w3 hown3 hgrow3
        have hb3 : (wr.alloc (.cells #[.int .i64 x, .int .i64 y] 96)).heap[wr.heap.size]? = some (.cells #[.int .i64 x, .int .i64 y] 96 (0, 0)) := heap_alloc_new wr _
        have hne3 : some wr.heap.size ≠ some w.heap.size := fun e => by injection e with e; omega
        have hs3 : w3.heap[wr.heap.size]? = some (.cells #[.int .i64 x, .int .i64 y] 96 (0, 0)) := (hgrow3.block _ (by simp) hne3).trans hb3
        have hcx : w3.cell? ⟨wr.heap.size, 0, none⟩ = some (.int .i64 x) := by rw [Lib.cell_of_heap hs3]; rfl
        have hcy : w3.cell? ⟨wr.heap.size, 1, none⟩ = some (.int .i64 y) := by rw [Lib.cell_of_heap hs3]; rfl
        have hq3 : HoldsI w3 (w.heap.size + 1) (qL a b n k) := (HH.out.1.alloc _).grown hgrow3 (fun e => by injection e with e; omega)
        have hcq := hq3.cell k (by omega)
        have hfq := hq3.free k
        have HQ3 := Lib.hid hq3
        have HB3 : Hid (Below w.heap.size w w3) := Lib.hid ((HH.out.2.alloc (by omega) _).grown hgrow3 (by simp; omega) (fun j hj => by injection hj with e; omega))
        have HO3 := Lib.hid hown3
        clear hgrow3 hs3 hb3 hq3
        generalize (qL a b n k).getD k 0 = old at *
        go_wp2_with (at_lookup; refine wpList_lookup_own_int _ rfl _ _ 94 rfl 96 3 .i64 partLaw Tryd.underlying94 Tryd.underlying3 (zeroI _) w.heap.size (k + 1) _ rfl hown3 _ _ rfl hkey ?_; intro c1 hat1 hwc1; obtain rfl := HAT.out c1 hat1)
        go_roundw
        case rel => exact ⟨k + 1, _, by omega, by go_num, ownsMap_set HO3.out _ _ _ (by omega), Lib.hid ⟨HM.out, HQ.out w3 HQ3.out, HB3.out.setCell (p := ⟨w.heap.size + 1, k, none⟩) (by show w.heap.size ≤ w.heap.size + 1; omega) _⟩⟩
        case measure => simp [intOf]; omega
    · have hkn : n = k := by omega
      subst hkn
      have HE : Hid (canonL a b = qL a b n n) := Lib.hid (by
        unfold canonL qL
        rw [HLEN.out]
        exact List.map_congr_left (fun i hi => by rw [if_pos (List.mem_range.1 hi)]))
      clear hown
      go_wp2
      go_ret2
      exact ⟨_, rfl, Nat.le_succ _, by rw [HE.out]; exact HI.out.2.1, HI.out.2.2⟩
end Go.Proofs.YtfbgabcdeecpoaaDoor
