/- Layer 17: a node more, and the sets of all nodes, by the program. -/
import Derived.Test.YtjpmhbnikoggaaaDoorNKd
import Derived.Test.YtjpmhbnikoggaaaDoorNLi
import Derived.Test.YtjpmhbnikoggaaaDoorNLj
namespace Go.Proofs.YtjpmhbnikoggaaaDoor
open Go.RowKit Go.Proofs.Ws
set_option maxRecDepth 100000
theorem TS.pushH {W w5 : World} {g : Nat} {m : Mo} {A1 : Option Addr} {c1 : Nat} {A2 : Option Addr} {c2 : Nat} {sets : List Nat} {has : List Bool} {V2 V3 v' : Value} {o : Obj} {b : Bool}
    (hg : W.heap[g]? = some (.cells #[.int .i64 m.n, .slice A1 m.val.length c1, .slice A2 m.rel.length c2, .int .u64 (allV m.n : Int), V2, V3] 88 (0, 0))) (h2 : W.ownsRow (g + 1) 31 1 V2 sets.length (us sets)) (h3 : W.ownsRow (g + 1) 4 1 V3 has.length (bsC has))
    (hgrow : (W.alloc o).grownBy w5 V3.ownBlock) (hown : w5.ownsRow (g + 1) 4 1 v' (has.length + 1) (bsC has ++ [.bool b])) : (w5.setCell ⟨g, 5, none⟩ v').heap[g]? = some (.cells #[.int .i64 m.n, .slice A1 m.val.length c1, .slice A2 m.rel.length c2, .int .u64 (allV m.n : Int), V2, v'] 88 (0, 0)) ∧ (w5.setCell ⟨g, 5, none⟩ v').ownsRow (g + 1) 31 1 V2 sets.length (us sets) ∧ (w5.setCell ⟨g, 5, none⟩ v').ownsRow (g + 1) 4 1 v' (has ++ [b]).length (bsC (has ++ [b])) ∧ w5.heap[g]? = W.heap[g]? := by
  have hlt : g < W.heap.size := (Array.getElem?_eq_some_iff.1 hg).1
  have hne : some g ≠ V3.ownBlock := fun e => by have := (h3.lt g e.symm).1; omega
  have hsame : ∀ j, j < W.heap.size → some j ≠ V3.ownBlock → w5.heap[j]? = W.heap[j]? := fun j hj hn => (hgrow.block j (by simp; omega) hn).trans (Below.heap_alloc W o j hj)
  have h5 := hsame g hlt hne
  refine ⟨?_, ?_, ?_, h5⟩
  · have h6 := h5.trans hg
    simp [World.setCell, Array.getElem?_modify, h6]
  · refine own_keep1K h2 (fun j hj => ?_)
    have hl := h2.lt j hj
    exact (Below.heap_setCell w5 _ _ j (by show j ≠ g; omega)).trans (hsame j hl.2 (fun e => own_apartK h2 h3 (by decide) hj e.symm))
  · have hown2 : w5.ownsRow (g + 1) 4 1 v' (has ++ [b]).length (bsC (has ++ [b])) := by
      rw [List.length_append]
      simpa [bsC, us] using hown
    refine own_keep1K hown2 (fun j hj => ?_)
    have hl := hown2.lt j hj
    exact Below.heap_setCell w5 _ _ j (by show j ≠ g; omega)
theorem TS.pushS {W w5 : World} {g : Nat} {m : Mo} {A1 : Option Addr} {c1 : Nat} {A2 : Option Addr} {c2 : Nat} {sets : List Nat} {has : List Bool} {V2 V3 v' : Value} {o : Obj} {s : Nat}
    (hg : W.heap[g]? = some (.cells #[.int .i64 m.n, .slice A1 m.val.length c1, .slice A2 m.rel.length c2, .int .u64 (allV m.n : Int), V2, V3] 88 (0, 0))) (h2 : W.ownsRow (g + 1) 31 1 V2 sets.length (us sets)) (h3 : W.ownsRow (g + 1) 4 1 V3 has.length (bsC has))
    (hgrow : (W.alloc o).grownBy w5 V2.ownBlock) (hown : w5.ownsRow (g + 1) 31 1 v' (sets.length + 1) (us sets ++ [.int .u64 (s : Int)])) : TS (w5.setCell ⟨g, 4, none⟩ v') g m A1 c1 A2 c2 (sets ++ [s]) has ∧ w5.heap[g]? = W.heap[g]? := by
  have hlt : g < W.heap.size := (Array.getElem?_eq_some_iff.1 hg).1
  have hne : some g ≠ V2.ownBlock := fun e => by have := (h2.lt g e.symm).1; omega
  have hsame : ∀ j, j < W.heap.size → some j ≠ V2.ownBlock → w5.heap[j]? = W.heap[j]? := fun j hj hn => (hgrow.block j (by simp; omega) hn).trans (Below.heap_alloc W o j hj)
  have h5 := hsame g hlt hne
  refine ⟨⟨v', V3, ?_, ?r2, ?r1⟩, h5⟩
  · have h6 := h5.trans hg
    simp [World.setCell, Array.getElem?_modify, h6]
  case r1 =>
    refine own_keep1K h3 (fun j hj => ?_)
    have hl := h3.lt j hj
    exact (Below.heap_setCell w5 _ _ j (by show j ≠ g; omega)).trans (hsame j hl.2 (fun e => own_apartK h3 h2 (by decide) hj e.symm))
  case r2 =>
    have hown2 : w5.ownsRow (g + 1) 31 1 v' (sets ++ [s]).length (us (sets ++ [s])) := by
      rw [List.length_append]
      simpa [bsC, us] using hown
    refine own_keep1K hown2 (fun j hj => ?_)
    have hl := hown2.lt j hj
    exact Below.heap_setCell w5 _ _ j (by show j ≠ g; omega)
set_option maxHeartbeats 16000000 in
theorem pAdd_anyC (m : Mo) (A1 : Option Addr) (c1 : Nat) (A2 : Option Addr) (c2 : Nat) (sets : List Nat) (has : List Bool) (g B : Nat) (w : World) (hT : TS w g m A1 c1 A2 c2 sets has) (hB : B ≤ g) (hM : MoR w B (.agg #[.int .i64 m.n, .slice A1 m.val.length c1, .slice A2 m.rel.length c2]) m) (hz : chkM m = 0) (hTab : Tab w) (hW : Words sets)
    (n : Nd) (hf : fldOk n) (k : Nat) (hs : sets.length = k) (hh : has.length = k) (hk : k ≤ 1000) (ho : opsOk n k) :
    Calls Tryd.prog 58 #[.pointer (some ⟨g, 0, none⟩), .agg #[.int .i64 n.op, .int .i64 n.i, .int .i64 n.e, .int .i64 n.g, .int .i64 n.x, .int .i64 n.y]] w fun e' w' => e' = .returned (.tuple #[]) ∧
      TS w' g m A1 c1 A2 c2 (sets ++ [if hasN m.rel.length m.val.length n (has.getD n.x.toNat false) (has.getD n.y.toNat false) = true then setN m n (sets.getD n.x.toNat 0) (sets.getD n.y.toNat 0) else 0]) (has ++ [hasN m.rel.length m.val.length n (has.getD n.x.toNat false) (has.getD n.y.toNat false)]) ∧ Below g w w' := by
  have hg := hT.lt
  have hMw : MoR w w.heap.size (.agg #[.int .i64 m.n, .slice A1 m.val.length c1, .slice A2 m.rel.length c2]) m := hM.below (Below.refl _ _) (by omega)
  have hnr : m.rel.length ≤ 64 := Nat.le_trans (chkM_ok hz).agents (by decide)
  have HP := Lib.hid (fun W (hb : Below w.heap.size w W) => pHas_anyC m A1 c1 A2 c2 sets has g W (hT.below hb) n hf (by rw [hh]; exact ho) hnr)
  have HS := Lib.hid (fun W (hb : Below w.heap.size w W) (h : hasN m.rel.length m.val.length n (has.getD n.x.toNat false) (has.getD n.y.toNat false) = true) => pSet_anyC m A1 c1 A2 c2 sets has g W (hT.below hb) (hMw.below hb hb.size) hz (hTab.below hb) hW n hf (by rw [hs]; exact ho) (hasN_parts.1 h).1)
  have HT := Lib.hid (fun W (hb : Below w.heap.size w W) => hT.below hb)
  obtain ⟨op, i, e, gi, nx, ny⟩ := n
  obtain ⟨b, hb⟩ : ∃ b, hasN m.rel.length m.val.length ⟨op, i, e, gi, nx, ny⟩ (has.getD nx.toNat false) (has.getD ny.toNat false) = b := ⟨_, rfl⟩
  obtain ⟨z, hzz⟩ : ∃ z, setN m ⟨op, i, e, gi, nx, ny⟩ (sets.getD nx.toNat 0) (sets.getD ny.toNat 0) = z := ⟨_, rfl⟩
  dsimp only at HP HS ⊢
  rw [hb] at HP ⊢
  rw [hzz] at HS ⊢
  have HS2 := Lib.hid (fun W hw (h : b = true) => HS.out W hw (hb.trans h))
  clear HS
  have HB0 : Hid (Below w.heap.size w (w.alloc (.cells #[.int .i64 op, .int .i64 i, .int .i64 e, .int .i64 gi, .int .i64 nx, .int .i64 ny] 62))) := Lib.hid ((Below.refl _ w).alloc (Nat.le_refl _) _)
  have KB0 : Hid ((w.alloc (.cells #[.int .i64 op, .int .i64 i, .int .i64 e, .int .i64 gi, .int .i64 nx, .int .i64 ny] 62)).heap[w.heap.size]? = some (.cells #[.int .i64 op, .int .i64 i, .int .i64 e, .int .i64 gi, .int .i64 nx, .int .i64 ny] 62)) := Lib.hid (heap_alloc_new w _)
  have HKL := Lib.hid (show w.heap.size < (w.alloc (.cells #[.int .i64 op, .int .i64 i, .int .i64 e, .int .i64 gi, .int .i64 nx, .int .i64 ny] 62)).heap.size by simp)
  obtain ⟨i0, hi, hz0, hz1, hz2⟩ := info_parts Tryd.infoB
  obtain ⟨j0, hj, hy0, hy1, hy2⟩ := info_parts Tryd.infoU
  have HHL := Lib.hid hh
  have HSL := Lib.hid hs
  have HG := Lib.hid hg
  clear hT hM hMw hz hTab hW hf ho hb hzz hnr hh hs hg
  obtain ⟨w1a, hW1⟩ : ∃ W, w.alloc (.cells #[.int .i64 op, .int .i64 i, .int .i64 e, .int .i64 gi, .int .i64 nx, .int .i64 ny] 62) = W := ⟨_, rfl⟩
  rw [hW1] at HB0 KB0 HKL
  have HW1 := Lib.hid hW1
  clear hW1
  go_enter Tryd.func58, Tryd.ntmps58
  go_wp2_with fail
  rw [HW1.out]
  clear HW1
  refine (HP.out _ HB0.out).mono ?_
  rintro e' w1 ⟨rfl, hb⟩
  have HB1 := Lib.hid (HB0.out.trans (hb.mono HB0.out.size))
  have kb1 := (hb.block _ HKL.out).trans KB0.out
  clear hb HP
  have hend : Hid (∀ (wx : World) (s : Nat), Below w.heap.size w wx → ∀ (Q : World → Prop), (∀ w', TS w' g m A1 c1 A2 c2 (sets ++ [s]) (has ++ [b]) → Below g w w' → Q w') → True) := Lib.hid (fun _ _ _ _ _ => trivial)
  clear hend
  cases b with
  | false =>
    clear HS2
    obtain ⟨V2, V3, hgc, h2, h3⟩ := (HT.out _ HB1.out).ex
    obtain ⟨A3, c3, rfl⟩ := own_slK h2
    obtain ⟨A4, c4, rfl⟩ := own_slK h3
    have t4 := (Lib.cell_of_heap hgc 4).trans (show _ = some (.slice A3 sets.length c3) from rfl)
    have t5 := (Lib.cell_of_heap hgc 5).trans (show _ = some (.slice A4 has.length c4) from rfl)
    have HPH := Lib.hid (fun w5 v' o (hgr : (w1.alloc o).grownBy w5 (Value.slice A4 has.length c4).ownBlock) hown => TS.pushH (b := false) (v' := v') hgc h2 h3 hgr hown)
    have H3 := Lib.hid h3
    have HGC := Lib.hid hgc
    have hsz := Nat.lt_of_lt_of_le HG.out HB1.out.size
    have HLTX := Lib.hid hsz
    clear hgc h2
    have hb1 : has.length ≤ 1000 := by rw [HHL.out]; exact hk
    have hb2 : sets.length ≤ 1000 := by rw [HSL.out]; exact hk
    go_wp2_with (at_builtin; refine wpList_append_own _ rfl _ _ 86 rfl (g + 1) 4 i0 (.bool false) 1 1 Tryd.underlying86 hi hz0 hz1 hz2 rfl (by decide) _ _ _ rfl (h3.alloc _) ⟨w1.heap.size, 0, none⟩ 1 1 [.bool false] rfl rfl ?k1 ?k2 ?k3 ?k4 ?k5 ?_)
    case k2 => intro u hu; simp at hu; subst hu; rfl
    case k3 => unfold maxLen; omega
    case k4 => omega
    case k5 => simp; omega
    case k1 =>
      intro j u hj
      match j, hj with
      | 0, hj => simp at hj; subst hj; simp [Addr.add]
    intro v' w5 hown' hgrow _
    obtain ⟨A5, c5, rfl⟩ := own_slK hown'
    obtain ⟨g6, o2, o3, e5⟩ := HPH.out w5 _ _ hgrow hown'
    have HBG : Hid (Below g w w5) := Lib.hid (((HB1.out.mono (Nat.le_of_lt HG.out)).alloc (Nat.le_trans (Nat.le_of_lt HG.out) HB1.out.size) _).grown hgrow (by simp; omega) (fun j hj => by have := (H3.out.lt j hj).1; omega))
    have hgc5 := e5.trans HGC.out
    have s4 := (Lib.cell_of_heap hgc5 4).trans (show _ = some (.slice A3 sets.length c3) from rfl)
    have s5 := (Lib.cell_of_heap hgc5 5).trans (show _ = some (.slice A4 has.length c4) from rfl)
    have fz5 := Lib.frozen_of_heap hgc5 5
    have HPS := Lib.hid (fun w7 v2 o (s : Nat) hgr hown => TS.pushS (W := w5.setCell ⟨g, 5, none⟩ (.slice A5 (has.length + 1) c5)) (w5 := w7) (v' := v2) (o := o) (s := s) g6 o2 o3 hgr hown)
    have HG6 := Lib.hid g6
    have HO2 := Lib.hid o2
    have hsz5 : g < w5.heap.size := (Array.getElem?_eq_some_iff.1 hgc5).1
    have HSZ5 := Lib.hid hsz5
    clear hown' hgrow HPH t4 t5 e5 hgc5 g6 o2 o3
    go_wp2_with (at_builtin; refine wpList_append_own _ rfl _ _ 22 rfl (g + 1) 31 j0 (.int .u64 0) 1 8 Tryd.underlying22 hj hy0 hy1 hy2 rfl (by decide) _ _ _ rfl (HO2.out.alloc _) ⟨w5.heap.size, 0, none⟩ 1 1 [.int .u64 0] rfl rfl ?m1 ?m2 ?m3 ?m4 ?m5 ?_)
    case m2 => intro u hu; simp at hu; subst hu; rfl
    case m3 => unfold maxLen; omega
    case m4 => omega
    case m5 => simp; omega
    case m1 =>
      intro j u hj
      match j, hj with
      | 0, hj =>
        simp at hj
        subst hj
        have hh := heap_alloc_new (w5.setCell ⟨g, 5, none⟩ (.slice A5 (has.length + 1) c5)) (.cells #[.int .u64 0] 31)
        have e9 : (w5.setCell ⟨g, 5, none⟩ (.slice A5 (has.length + 1) c5)).heap.size = w5.heap.size := by simp
        rw [e9] at hh
        exact (Lib.cell_of_heap hh 0).trans rfl
    intro v2 w7 hown7 hgrow7 _
    obtain ⟨A6, c6, rfl⟩ := own_slK hown7
    obtain ⟨hTS, e7⟩ := HPS.out w7 _ _ 0 hgrow7 hown7
    have HTS := Lib.hid hTS
    have HB7 : Hid (Below g w (w7.setCell ⟨g, 4, none⟩ (.slice A6 (sets.length + 1) c6))) := Lib.hid ((((HBG.out.setCell (Nat.le_refl g) (.slice A5 (has.length + 1) c5)).alloc (by simp; exact Nat.le_of_lt (Nat.lt_of_lt_of_le HG.out (by have := HBG.out.size; omega))) _).grown hgrow7 (by simp; omega) (fun j hj => by have := (HO2.out.lt j hj).1; omega)).setCell (Nat.le_refl g) (.slice A6 (sets.length + 1) c6))
    have hgc7 := e7.trans HG6.out
    have r4 := (Lib.cell_of_heap hgc7 4).trans (show _ = some (.slice A3 sets.length c3) from rfl)
    have fz7 := Lib.frozen_of_heap hgc7 4
    clear hown7 hgrow7 HPS s4 s5 fz5 e7 hgc7 hTS
    go_wp2
    go_end0
    exact ⟨rfl, (by have h := HTS.out; simpa using h), HB7.out⟩
  | true =>
    have n0 := (Lib.cell_of_heap kb1 0).trans (show _ = some (.int .i64 op) from rfl)
    have n1 := (Lib.cell_of_heap kb1 1).trans (show _ = some (.int .i64 i) from rfl)
    have n2 := (Lib.cell_of_heap kb1 2).trans (show _ = some (.int .i64 e) from rfl)
    have n3 := (Lib.cell_of_heap kb1 3).trans (show _ = some (.int .i64 gi) from rfl)
    have n4 := (Lib.cell_of_heap kb1 4).trans (show _ = some (.int .i64 nx) from rfl)
    have n5 := (Lib.cell_of_heap kb1 5).trans (show _ = some (.int .i64 ny) from rfl)
    clear kb1
    go_wp2_with fail
    refine (HS2.out _ HB1.out (by first | rfl | trivial)).mono ?_
    rintro e' w2 ⟨rfl, hb⟩
    have HB2 := Lib.hid (HB1.out.trans (hb.mono HB1.out.size))
    clear hb HS2 n0 n1 n2 n3 n4 n5
    obtain ⟨V2, V3, hgc, h2, h3⟩ := (HT.out _ HB2.out).ex
    obtain ⟨A3, c3, rfl⟩ := own_slK h2
    obtain ⟨A4, c4, rfl⟩ := own_slK h3
    have t4 := (Lib.cell_of_heap hgc 4).trans (show _ = some (.slice A3 sets.length c3) from rfl)
    have t5 := (Lib.cell_of_heap hgc 5).trans (show _ = some (.slice A4 has.length c4) from rfl)
    have HPH := Lib.hid (fun w5 v' o (hgr : (w2.alloc o).grownBy w5 (Value.slice A4 has.length c4).ownBlock) hown => TS.pushH (b := true) (v' := v') hgc h2 h3 hgr hown)
    have H3 := Lib.hid h3
    have HGC := Lib.hid hgc
    have hsz := Nat.lt_of_lt_of_le HG.out HB2.out.size
    have HLTX := Lib.hid hsz
    clear hgc h2
    have hb1 : has.length ≤ 1000 := by rw [HHL.out]; exact hk
    have hb2 : sets.length ≤ 1000 := by rw [HSL.out]; exact hk
    go_wp2_with (at_builtin; refine wpList_append_own _ rfl _ _ 86 rfl (g + 1) 4 i0 (.bool false) 1 1 Tryd.underlying86 hi hz0 hz1 hz2 rfl (by decide) _ _ _ rfl (h3.alloc _) ⟨w2.heap.size, 0, none⟩ 1 1 [.bool true] rfl rfl ?k1 ?k2 ?k3 ?k4 ?k5 ?_)
    case k2 => intro u hu; simp at hu; subst hu; rfl
    case k3 => unfold maxLen; omega
    case k4 => omega
    case k5 => simp; omega
    case k1 =>
      intro j u hj
      match j, hj with
      | 0, hj => simp at hj; subst hj; simp [Addr.add]
    intro v' w5 hown' hgrow _
    obtain ⟨A5, c5, rfl⟩ := own_slK hown'
    obtain ⟨g6, o2, o3, e5⟩ := HPH.out w5 _ _ hgrow hown'
    have HBG : Hid (Below g w w5) := Lib.hid (((HB2.out.mono (Nat.le_of_lt HG.out)).alloc (Nat.le_trans (Nat.le_of_lt HG.out) HB2.out.size) _).grown hgrow (by simp; omega) (fun j hj => by have := (H3.out.lt j hj).1; omega))
    have hgc5 := e5.trans HGC.out
    have s4 := (Lib.cell_of_heap hgc5 4).trans (show _ = some (.slice A3 sets.length c3) from rfl)
    have s5 := (Lib.cell_of_heap hgc5 5).trans (show _ = some (.slice A4 has.length c4) from rfl)
    have fz5 := Lib.frozen_of_heap hgc5 5
    have HPS := Lib.hid (fun w7 v2 o (s : Nat) hgr hown => TS.pushS (W := w5.setCell ⟨g, 5, none⟩ (.slice A5 (has.length + 1) c5)) (w5 := w7) (v' := v2) (o := o) (s := s) g6 o2 o3 hgr hown)
    have HG6 := Lib.hid g6
    have HO2 := Lib.hid o2
    have hsz5 : g < w5.heap.size := (Array.getElem?_eq_some_iff.1 hgc5).1
    have HSZ5 := Lib.hid hsz5
    clear hown' hgrow HPH t4 t5 e5 hgc5 g6 o2 o3
    go_wp2_with (at_builtin; refine wpList_append_own _ rfl _ _ 22 rfl (g + 1) 31 j0 (.int .u64 0) 1 8 Tryd.underlying22 hj hy0 hy1 hy2 rfl (by decide) _ _ _ rfl (HO2.out.alloc _) ⟨w5.heap.size, 0, none⟩ 1 1 [.int .u64 (z : Int)] rfl rfl ?m1 ?m2 ?m3 ?m4 ?m5 ?_)
    case m2 => intro u hu; simp at hu; subst hu; rfl
    case m3 => unfold maxLen; omega
    case m4 => omega
    case m5 => simp; omega
    case m1 =>
      intro j u hj
      match j, hj with
      | 0, hj =>
        simp at hj
        subst hj
        have hh := heap_alloc_new (w5.setCell ⟨g, 5, none⟩ (.slice A5 (has.length + 1) c5)) (.cells #[.int .u64 (z : Int)] 31)
        have e9 : (w5.setCell ⟨g, 5, none⟩ (.slice A5 (has.length + 1) c5)).heap.size = w5.heap.size := by simp
        rw [e9] at hh
        exact (Lib.cell_of_heap hh 0).trans rfl
    intro v2 w7 hown7 hgrow7 _
    obtain ⟨A6, c6, rfl⟩ := own_slK hown7
    obtain ⟨hTS, e7⟩ := HPS.out w7 _ _ z hgrow7 hown7
    have HTS := Lib.hid hTS
    have HB7 : Hid (Below g w (w7.setCell ⟨g, 4, none⟩ (.slice A6 (sets.length + 1) c6))) := Lib.hid ((((HBG.out.setCell (Nat.le_refl g) (.slice A5 (has.length + 1) c5)).alloc (by simp; exact Nat.le_of_lt (Nat.lt_of_lt_of_le HG.out (by have := HBG.out.size; omega))) _).grown hgrow7 (by simp; omega) (fun j hj => by have := (HO2.out.lt j hj).1; omega)).setCell (Nat.le_refl g) (.slice A6 (sets.length + 1) c6))
    have hgc7 := e7.trans HG6.out
    have r4 := (Lib.cell_of_heap hgc7 4).trans (show _ = some (.slice A3 sets.length c3) from rfl)
    have fz7 := Lib.frozen_of_heap hgc7 4
    clear hown7 hgrow7 HPS s4 s5 fz5 e7 hgc7 hTS
    go_wp2
    go_end0
    exact ⟨rfl, (by have h := HTS.out; simpa using h), HB7.out⟩
end Go.Proofs.YtjpmhbnikoggaaaDoor
