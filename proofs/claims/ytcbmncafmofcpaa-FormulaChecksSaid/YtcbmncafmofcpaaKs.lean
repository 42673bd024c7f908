/- Layer 5: the program's add. -/
import Derived.Test.YtcbmncafmofcpaaKr
namespace Go.Proofs.Ytcbmncafmofcpaa
open Go.RowKit Go.Proofs.Ws Go.Maps
theorem zeroI (w : World) : (zeroValue 3).run Try.prog w = .ok (.int .i64 0) w := by kernel_rfl
theorem look_old {W : World} {bm m : Nat} {D : DataW Unit} {out : List Nd} {n : Nd} (h : W.ownsMap Try.prog 44 (plainElem (H := Unit) Try.prog 3) bm m D) (hM : MapOf out D) (hi : n ∈ out) :
    (Instr.lookup 78 (.map (some bm)) (nv n) true).run Try.prog W = .ok (.tuple #[.int .i64 (out.idxOf n : Int), .bool true]) W := by
  obtain ⟨v, ps, hrun, hv⟩ := h.look_ok nodeLaw Try.underlying78 (zeroI W) (plainElem_int Try.underlying3 (by decide)) (key_nd (hM.wide n hi))
  rw [hM.at_ n hi] at hv
  obtain ⟨c, rfl, hc, hwc⟩ := plainElem_int_inv Try.underlying3 hv
  rw [hrun, (hM.there n (hM.wide n hi)).2 hi]
  have := congrArg Prod.fst hc
  injection this with h1
  injection h1 with _ h2
  rw [h2]
theorem look_new {W : World} {bm m : Nat} {D : DataW Unit} {out : List Nd} {n : Nd} (h : W.ownsMap Try.prog 44 (plainElem (H := Unit) Try.prog 3) bm m D) (hM : MapOf out D) (hw : NdW n) (hi : n ∉ out) :
    ∃ c : Int, ∀ k, (Instr.lookup 78 (.map (some bm)) (nv n) true).run Try.prog (W.drewN k) = .ok (.tuple #[.int .i64 c, .bool false]) (W.drewN k) := by
  have hb : Maps.has D (keyN n) = false := by
    cases hq : Maps.has D (keyN n)
    · rfl
    · exact absurd ((hM.there n hw).1 hq) hi
  obtain ⟨v, ps, hrun, hv⟩ := h.look_ok nodeLaw Try.underlying78 (zeroI W) (plainElem_int Try.underlying3 (by decide)) (key_nd hw)
  obtain ⟨c, rfl, hc, hwc⟩ := plainElem_int_inv Try.underlying3 hv
  refine ⟨c, fun k => ?_⟩
  have h2 : (W.drewN k).ownsMap Try.prog 44 (plainElem (H := Unit) Try.prog 3) bm m D := ownsMap_keep h rfl
  obtain ⟨v2, ps2, hrun2, hv2⟩ := h2.look_ok nodeLaw Try.underlying78 (zeroI _) (plainElem_int Try.underlying3 (by decide)) (key_nd hw)
  obtain ⟨c2, rfl, hc2, hwc2⟩ := plainElem_int_inv Try.underlying3 hv2
  rw [hrun2, hb]
  have e1 := congrArg Prod.fst hc
  have e2 := congrArg Prod.fst hc2
  have : c2 = c := by
    have e3 := e2.symm.trans e1
    injection e3 with h3
    injection h3
  rw [this]
set_option maxRecDepth 100000 in
set_option maxHeartbeats 4000000 in
theorem pAdd_old (x : Nd) (base bw bp bm c n : Nat) (A : Option Addr) (s : Wk) (w : World) (hS : PW w base bw bp bm A c n s) (hin : x ∈ s.out) :
    Calls Try.prog 110 #[.pointer (some ⟨bw, 0, none⟩), nv x] w fun e w' => e = .returned (.int .i64 (s.out.idxOf x : Int)) ∧ Below w.heap.size w w' := by
  obtain ⟨D, hown, hM⟩ := hS.map
  have hm := hS.mp
  have lw : bw < w.heap.size := Nat.lt_of_lt_of_le hS.lw hS.lb
  have HB : Hid (∀ o, Below w.heap.size w (w.alloc o)) := Lib.hid (fun o => (Below.refl _ w).alloc (Nat.le_refl _) o)
  have hL : ∀ W : World, W.heap[bm]? = w.heap[bm]? → (Instr.lookup 78 (.map (some bm)) (nv x) true).run Try.prog W = .ok (.tuple #[.int .i64 (s.out.idxOf x : Int), .bool true]) W := fun W h => look_old (ownsMap_keep hown h) hM hin
  have lm : bm < w.heap.size := Nat.lt_of_lt_of_le hS.lm hS.lb
  have hL1 : ∀ (o : Obj) (k : Nat), (Instr.lookup 78 (.map (some bm)) (nv x) true).run Try.prog ((w.alloc o).drewN k) = .ok (.tuple #[.int .i64 (s.out.idxOf x : Int), .bool true]) ((w.alloc o).drewN k) := fun o k => hL _ (by show (w.alloc o).heap[bm]? = _; exact Below.heap_alloc w o bm lm)
  unfold nv at hL1 ⊢
  generalize s.out.idxOf x = z at *
  clear hS hin hL hM hown
  go_enter Try.func110, Try.ntmps110
  go_wp2
  go_quiet (fail)
  go_wp2
  go_ret
  exact ⟨rfl, below_drewN (HB.out _) _⟩
theorem turned_cell {w w' : World} {b : Nat} (h : w.mapTurned w' b) {g : Nat} (hg : g < w.heap.size) (hne : g ≠ b) : w'.heap[g]? = w.heap[g]? := h.grown.block g hg (fun e => hne (by injection e))
theorem PW.put_end {w w3 w4 : World} {base bw bp bm c n g3 c3 : Nat} {A : Option Addr} {s : Wk} {x : Nd} {D : DataW Unit} {row : Option Nat} (h : PW w base bw bp bm A c n s) (hb3 : Below 0 w w3) (hk : ∀ g, g < w.heap.size → g ≠ bm → w3.heap[g]? = w.heap[g]?)
    (hM : MapOf s.out D) (hx : x ∉ s.out) (hw : NdW x) (ho3 : w3.ownsMap Try.prog 44 (plainElem (H := Unit) Try.prog 3) bm (s.out.length + 1) (D.put (keyN x) (.lit (.int .i64 (s.out.length : Int)))))
    (hrow : rowP w bw = row) (ho : w4.ownsRow base 44 6 (.slice (some ⟨g3, 0, none⟩) (s.out.length + 1) c3) (s.out ++ [x]).length (nds (s.out ++ [x]))) (hg : w3.grownBy w4 row)
    (hr : (Value.slice (some ⟨g3, 0, none⟩) (s.out.length + 1) c3).ownBlock = row ∨ ∃ g, (Value.slice (some ⟨g3, 0, none⟩) (s.out.length + 1) c3).ownBlock = some g ∧ w.heap.size ≤ g) :
    PW (w4.setCell ⟨bw, 2, none⟩ (.slice (some ⟨g3, 0, none⟩) (s.out.length + 1) c3)) base bw bp bm A c n ⟨s.out ++ [x], s.done⟩ ∧ Fp bw bp bm w (w4.setCell ⟨bw, 2, none⟩ (.slice (some ⟨g3, 0, none⟩) (s.out.length + 1) c3)) := by
  have lw := h.lw
  have lp := h.lp
  have lm := h.lm
  have lb := h.lb
  have n1 := h.n1
  have n2 := h.n2
  have n3 := h.n3
  have hs3 := hb3.size
  have hrl : ∀ g, row = some g → base ≤ g := fun g e => (h.row g (hrow.trans e)).1
  have hb4 : ∀ g, g < base → g ≠ bm → w4.heap[g]? = w.heap[g]? := fun g h1 h2 => (hg.block g (by omega) (fun e => by have := hrl g e.symm; omega)).trans (hk g (by omega) h2)
  have hbw := hb4 bw lw n2
  have hbp : (w4.setCell ⟨bw, 2, none⟩ (.slice (some ⟨g3, 0, none⟩) (s.out.length + 1) c3)).heap[bp]? = w.heap[bp]? := (Below.heap_setCell _ _ _ _ (by show bp ≠ bw; omega)).trans (hb4 bp lp n3)
  have hbm : (w4.setCell ⟨bw, 2, none⟩ (.slice (some ⟨g3, 0, none⟩) (s.out.length + 1) c3)).heap[bm]? = w3.heap[bm]? := (Below.heap_setCell _ _ _ _ (by show bm ≠ bw; omega)).trans (hg.block bm (by omega) (fun e => by have := hrl bm e.symm; omega))
  obtain ⟨A2, c2, h2, _⟩ := h.out
  have hc2 := (World.cell?_of_block (a := ⟨bw, 2, none⟩) hbw).trans h2
  have hk2 := World.cell?_setCell_same w4 ⟨bw, 2, none⟩ (.slice (some ⟨g3, 0, none⟩) (s.out.length + 1) c3) hc2
  have hj : ∀ j v, j ≠ 2 → w.cell? ⟨bw, j, none⟩ = some v → (w4.setCell ⟨bw, 2, none⟩ (.slice (some ⟨g3, 0, none⟩) (s.out.length + 1) c3)).cell? ⟨bw, j, none⟩ = some v := fun j v hj hv => by
    rw [World.cell?_setCell_other w4 ⟨bw, 2, none⟩ ⟨bw, j, none⟩ _ (fun e2 => by have h9 := congrArg Addr.off e2; dsimp only at h9; omega)]
    exact (World.cell?_of_block (a := ⟨bw, j, none⟩) hbw).trans hv
  have hsz : w.heap.size ≤ (w4.setCell ⟨bw, 2, none⟩ (.slice (some ⟨g3, 0, none⟩) (s.out.length + 1) c3)).heap.size := by have := hg.size; simp; omega
  have hlen : (s.out ++ [x]).length = s.out.length + 1 := by simp
  refine ⟨⟨lw, lp, lm, n1, n2, n3, by omega, hj 0 _ (by decide) h.frm, hj 1 _ (by decide) h.pl, ⟨_, c3, by rw [hlen]; exact hk2, ?_⟩, ?_, hj 3 _ (by decide) h.mp, ⟨_, ?_, hM.put hw hx⟩, h.len, fun j hj => ?_, fun j hj => ?_⟩, ?_⟩
  · rw [hlen]
    have := ownsRow_setCell_below ho (a := ⟨bw, 2, none⟩) lw (.slice (some ⟨g3, 0, none⟩) (s.out.length + 1) c3)
    rw [hlen] at this
    exact this
  · rw [World.frozen?_setCell]
    exact (World.frozen?_of_block (a := ⟨bw, 2, none⟩) hbw).trans h.fout
  · rw [hlen]
    exact ownsMap_keep ho3 hbm
  · exact (World.cell?_of_block (a := ⟨bp, j, none⟩) hbp).trans (h.cells j hj)
  · exact (World.frozen?_of_block (a := ⟨bp, j, none⟩) hbp).trans (h.free j hj)
  · refine ⟨hg.os.trans hb3.os, hg.tape.trans hb3.tape, hg.output.trans hb3.output, hsz, fun g hg1 h5 h6 h7 h8 => ?_, ?_⟩
    · rw [hrow] at h8
      exact (Below.heap_setCell w4 _ _ g h5).trans ((hg.block g (by omega) h8).trans (hk g hg1 h7))
    · rw [hrow, rowP_of hk2]
      exact hr
set_option maxRecDepth 100000 in
set_option maxHeartbeats 4000000 in
theorem pAdd_new (x : Nd) (base bw bp bm c n : Nat) (A : Option Addr) (s : Wk) (w : World) (hS : PW w base bw bp bm A c n s) (hin : x ∉ s.out) (hw : NdW x) (hm : s.out.length ≤ 1000) :
    Calls Try.prog 110 #[.pointer (some ⟨bw, 0, none⟩), nv x] w fun e w' => e = .returned (.int .i64 (s.out.length : Int)) ∧ PW w' base bw bp bm A c n ⟨s.out ++ [x], s.done⟩ ∧ Fp bw bp bm w w' := by
  obtain ⟨D, hown, hM⟩ := hS.map
  obtain ⟨A2, c2, h2, hrow⟩ := hS.out
  have hm3 := hS.mp
  have lb := hS.lb
  have lw : bw < w.heap.size := Nat.lt_of_lt_of_le hS.lw hS.lb
  have lm : bm < w.heap.size := Nat.lt_of_lt_of_le hS.lm hS.lb
  have lp : bp < w.heap.size := Nat.lt_of_lt_of_le hS.lp hS.lb
  have hfo := hS.fout
  have HS := Lib.hid hS
  have hL0 := fun (o : Obj) => look_new (ownsMap_keep hown (Below.heap_alloc w o bm lm)) hM hw hin
  obtain ⟨z, hL1⟩ := hL0 (.cells #[.int .i64 x.op, .int .i64 x.i, .int .i64 x.e, .int .i64 x.g, .int .i64 x.x, .int .i64 x.y] 44)
  have HB : Hid (Below w.heap.size w (w.alloc (.cells #[.int .i64 x.op, .int .i64 x.i, .int .i64 x.e, .int .i64 x.g, .int .i64 x.x, .int .i64 x.y] 44))) := Lib.hid ((Below.refl _ w).alloc (Nat.le_refl _) _)
  have HBX := Lib.hid (Box.made w x 44)
  have HOWN := Lib.hid hown
  have HM := Lib.hid hM
  have HW := Lib.hid hw
  have HR := Lib.hid hrow
  have HI := Lib.hid hin
  unfold nv at hL1 ⊢
  clear hS hin hL0 hM hown hw hrow
  go_enter Try.func110, Try.ntmps110
  go_wp2
  go_quiet (fail)
  go_wp2
  have HB0 : Hid (Below w.heap.size w ((w.alloc (.cells #[.int .i64 x.op, .int .i64 x.i, .int .i64 x.e, .int .i64 x.g, .int .i64 x.x, .int .i64 x.y] 44)).drewN nq)) := Lib.hid (below_drewN HB.out _)
  have HBX0 : Hid (Box ((w.alloc (.cells #[.int .i64 x.op, .int .i64 x.i, .int .i64 x.e, .int .i64 x.g, .int .i64 x.x, .int .i64 x.y] 44)).drewN nq) w.heap.size x) := Lib.hid HBX.out
  have hsz0 : w.heap.size < ((w.alloc (.cells #[.int .i64 x.op, .int .i64 x.i, .int .i64 x.e, .int .i64 x.g, .int .i64 x.x, .int .i64 x.y] 44)).drewN nq).heap.size := by show w.heap.size < (w.alloc _).heap.size; simp
  clear hL1 HB HBX
  generalize (w.alloc (.cells #[.int .i64 x.op, .int .i64 x.i, .int .i64 x.e, .int .i64 x.g, .int .i64 x.x, .int .i64 x.y] 44)).drewN nq = w0 at *
  obtain ⟨w3, hrun, hown3, hturn⟩ := World.ownsMap.store (w := w0.drew) (ownsMap_keep HOWN.out (show w0.drew.heap[bm]? = w.heap[bm]? from HB0.out.block bm lm)) nodeLaw Try.underlying78 (by unfold maxLen; omega) (key_nd HW.out) (plainElem_int (H := Unit) Try.underlying3 (show (Lit.int .i64 (s.out.length : Int)).wf = true from WalkArith.wf_i64 (by omega)))
  have hc3 := (HB0.out.cell (p := ⟨bw, 3, none⟩) lw).trans hm3
  obtain ⟨b0, b1, b2, b3, b4, b5, bf⟩ := HBX0.out
  clear bf
  unfold nv at hrun
  have HBK : Hid (∀ g, g < w.heap.size → g ≠ bm → w3.heap[g]? = w.heap[g]?) := Lib.hid (fun g h1 h2 => (turned_cell hturn (show g < w0.heap.size by omega) h2).trans (HB0.out.block g h1))
  have HG := Lib.hid hturn.grown
  have HO3 := Lib.hid hown3
  clear hown3 hturn
  go_region
  clear hrun b0 b1 b2 b3 b4 b5 hc3
  have hsz3 : w.heap.size < w3.heap.size := Nat.lt_of_lt_of_le hsz0 HG.out.size
  obtain ⟨b0, b1, b2, b3, b4, b5, bf⟩ := HBX0.out.keep (W' := w3) (HG.out.block w.heap.size hsz0 (fun e => by injection e; omega))
  clear bf
  have hc2 : w3.cell? ⟨bw, 2, none⟩ = some (.slice A2 s.out.length c2) := (World.cell?_of_block (a := ⟨bw, 2, none⟩) (HBK.out bw lw HS.out.n2)).trans h2
  have hf2 : w3.frozen? ⟨bw, 2, none⟩ = false := (World.frozen?_of_block (a := ⟨bw, 2, none⟩) (HBK.out bw lw HS.out.n2)).trans hfo
  have hrowlt : Hid (∀ g, (Value.slice A2 s.out.length c2).ownBlock = some g → base ≤ g ∧ g < w.heap.size) := Lib.hid (fun g hg => HR.out.lt g hg)
  have hbmr : Hid (∀ g, (Value.slice A2 s.out.length c2).ownBlock = some g → g ≠ bm) := Lib.hid (fun g hg e => by have := (hrowlt.out g hg).1; have := HS.out.lm; omega)
  have hO0 : Hid (w3.ownsRow base 44 6 (.slice A2 s.out.length c2) s.out.length (nds s.out)) := Lib.hid (own_keep1 HR.out (fun g hg => HBK.out g (hrowlt.out g hg).2 (hbmr.out g hg)))
  have hO1 : Hid (∀ o, (w3.drew.alloc o).ownsRow base 44 6 (.slice A2 s.out.length c2) s.out.length (nds s.out)) := Lib.hid (fun o => own_keep1 hO0.out (fun g hg => Below.heap_alloc w3.drew o g (by show g < w3.heap.size; have := (hrowlt.out g hg).2; omega)))
  have hO2 : Hid (∀ o, base ≤ (w3.drew.alloc o).heap.size) := Lib.hid (fun o => by have : (w3.drew.alloc o).heap.size = w3.heap.size + 1 := by simp
                                                                                   omega)
  have hO3 : Hid (∀ j u, (ndC x)[j]? = some u → (w3.drew.alloc (.cells #[.int .i64 x.op, .int .i64 x.i, .int .i64 x.e, .int .i64 x.g, .int .i64 x.x, .int .i64 x.y] 44)).cell? ⟨w3.heap.size, j, none⟩ = some u) := Lib.hid (fun j u hj => by
    have hh := heap_alloc_new w3.drew (.cells #[.int .i64 x.op, .int .i64 x.i, .int .i64 x.e, .int .i64 x.g, .int .i64 x.x, .int .i64 x.y] 44)
    have := Lib.cell_of_heap hh j
    rw [show (⟨w3.heap.size, j, none⟩ : Addr) = ⟨w3.drew.heap.size, j, none⟩ from rfl, this, ← hj]
    simp [ndC])
  have HNE : Hid (some bw ≠ (Value.slice A2 s.out.length c2).ownBlock) := Lib.hid (fun e => by have := (hrowlt.out bw e.symm).1; have := HS.out.lw; omega)
  have HWW : Hid (∀ o w4, (w3.drew.alloc o).grownBy w4 (Value.slice A2 s.out.length c2).ownBlock → w3.grownBy w4 (Value.slice A2 s.out.length c2).ownBlock ∧ w4.cell? ⟨bw, 2, none⟩ = some (.slice A2 s.out.length c2) ∧ w4.frozen? ⟨bw, 2, none⟩ = false) := Lib.hid (fun o w4 hg => by
    have hb : Below w3.heap.size w3 (w3.drew.alloc o) := ((Below.refl _ w3).drew).alloc (Nat.le_refl _) o
    have h4 : w3.grownBy w4 (Value.slice A2 s.out.length c2).ownBlock := ⟨hg.os.trans hb.os, hg.tape.trans hb.tape, hg.output.trans hb.output, Nat.le_trans hb.size hg.size, fun g hg1 hg2 => (hg.block g (Nat.lt_of_lt_of_le hg1 hb.size) hg2).trans (hb.block g hg1)⟩
    exact ⟨h4, (h4.cell_far ⟨bw, 2, none⟩ (by show bw < w3.heap.size; omega) HNE.out).trans hc2, (h4.frozen_far ⟨bw, 2, none⟩ (by show bw < w3.heap.size; omega) HNE.out).trans hf2⟩)
  have e0 := World.new_ne w3 _ hc2
  have ebw : bw < w3.heap.size := by omega
  have ebn : bw ≠ w3.heap.size := by omega
  go_wp2
  go_region_law
    ((refine step_appN x _ (by rfl) _ _ (by rfl) base _ _ (by rfl) (hO1.out _) (by rfl) hO3.out hm (hO2.out _) ?_; intro g3 c3 w4 ho3 hg3 hr3; obtain ⟨hg4, k0, k1⟩ := HWW.out _ _ hg3; have HH := Lib.hid (And.intro ho3 (And.intro hg4 (row_new (n := s.out.length + 1) (c := c3) hr3 (show w.heap.size ≤ (w3.drew.alloc _).heap.size by simp; omega)))); clear ho3 hg3 hg4 hr3))
  all_goals clear b0 b1 b2 b3 b4 b5 hc2 hf2 e0 ebw ebn
  all_goals go_wp2
  all_goals go_ret
  all_goals exact ⟨ret_i64 (by first | rfl | (simp; done) | omega), HS.out.put_end ⟨HG.out.os.trans HB0.out.os, HG.out.tape.trans HB0.out.tape, HG.out.output.trans HB0.out.output, Nat.le_of_lt hsz3, fun k hk => absurd hk (by omega)⟩ HBK.out HM.out HI.out HW.out HO3.out (rowP_of h2) HH.out.1 HH.out.2.1 HH.out.2.2⟩
theorem pAdd_any (x : Nd) (base bw bp bm c n : Nat) (A : Option Addr) (s : Wk) (w : World) (hS : PW w base bw bp bm A c n s) (hw : NdW x) (hm : s.out.length ≤ 1000) :
    Calls Try.prog 110 #[.pointer (some ⟨bw, 0, none⟩), nv x] w fun e w' => e = .returned (.int .i64 ((putNd s.out x).1 : Nat)) ∧ PW w' base bw bp bm A c n ⟨(putNd s.out x).2, s.done⟩ ∧ Fp bw bp bm w w' := by
  by_cases hin : x ∈ s.out
  · refine (pAdd_old x base bw bp bm c n A s w hS hin).mono ?_
    rintro e w' ⟨rfl, hb⟩
    have e1 : putNd s.out x = (s.out.idxOf x, s.out) := by unfold putNd; rw [if_pos hin]
    rw [e1]
    exact ⟨rfl, hS.below hb, Fp.of_below hb (Nat.lt_of_lt_of_le hS.lw hS.lb)⟩
  · refine (pAdd_new x base bw bp bm c n A s w hS hin hw hm).mono ?_
    rintro e w' ⟨rfl, h1, h2⟩
    have e1 : putNd s.out x = (s.out.length, s.out ++ [x]) := by unfold putNd; rw [if_neg hin]
    rw [e1]
    exact ⟨rfl, h1, h2⟩
end Go.Proofs.Ytcbmncafmofcpaa
