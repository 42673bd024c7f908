/- Layer 5: renumber by a shift. -/
import Derived.Test.YtcbmncafmofcpaaMa
namespace Go.Proofs.Ws
open Go
/-- a node with its operands moved -/
def shiftN (s : Nat) (n : Nd) : Nd := { n with x := if usesX n.op = true then n.x + s else n.x, y := if usesY n.op = true then n.y + s else n.y }
end Go.Proofs.Ws
namespace Go.Proofs.Ytcbmncafmofcpaa
open Go.RowKit Go.Proofs.Ws Go.Maps
theorem shiftCl_any (v : Int) (s g : Nat) (w : World) (hc : w.cell? ⟨g, 0, none⟩ = some (.int .i64 (s : Int))) (hv : 0 ≤ v ∧ v ≤ 100000) (hs : s ≤ 100000) :
    Calls Try.prog 114 #[.int .i64 v, .pointer (some ⟨g, 0, none⟩)] w fun e w' => e = .returned (.int .i64 (v + s)) ∧ w = w' := by
  have h1 : wrap64 (v + (s : Int)) = v + s := by unfold wrap64; omega
  have h2 : IntKind.i64.wrap (v + (s : Int)) = v + s := by rw [IntKind.wrap_i64]; omega
  go_enter Try.func114, Try.ntmps114
  go_wp2
  go_ret
  exact ⟨rfl, rfl⟩
/-- the boxes of renumber, where the closure only reads -/
structure SQ (w W : World) (g0 g1 g2 : Nat) (x : Nd) (a1 a2 a3 a4 : Int) : Prop where
  bx : Box W g0 x
  rs : W.heap[g1]? = some (.cells #[.int .i64 0, .int .i64 0, .int .i64 0, .int .i64 0, .int .i64 0, .int .i64 0] 44 (0, 0))
  sh : W.heap[g2]? = some (.cells #[.int .i64 a1, .int .i64 a2, .int .i64 a3, .int .i64 a4] 72 (0, 0))
  be : Below w.heap.size w W
  l0 : w.heap.size ≤ g0
  n01 : g0 ≠ g1
  n02 : g0 ≠ g2
theorem SQ.set {w W : World} {g0 g1 g2 j : Nat} {x x' : Nd} {a1 a2 a3 a4 : Int} {v : Value} (h : SQ w W g0 g1 g2 x a1 a2 a3 a4) (hx : Box (W.setCell ⟨g0, j, none⟩ v) g0 x') : SQ w (W.setCell ⟨g0, j, none⟩ v) g0 g1 g2 x' a1 a2 a3 a4 :=
  ⟨hx, (Below.heap_setCell _ _ _ _ h.n01.symm).trans h.rs, (Below.heap_setCell _ _ _ _ h.n02.symm).trans h.sh, h.be.setCell h.l0 _, h.l0, h.n01, h.n02⟩
theorem SQ.cells {w W : World} {g0 g1 g2 : Nat} {x : Nd} {a1 a2 a3 a4 : Int} (h : SQ w W g0 g1 g2 x a1 a2 a3 a4) : W.cell? ⟨g2, 3, none⟩ = some (.int .i64 a4) := Lib.cell_of_heap h.sh 3
theorem SQ.zero {w W : World} {g0 g1 g2 : Nat} {x : Nd} {a1 a2 a3 a4 : Int} (h : SQ w W g0 g1 g2 x a1 a2 a3 a4) : Box W g1 ⟨0, 0, 0, 0, 0, 0⟩ := by
  have := Lib.cell_of_heap h.rs
  exact ⟨this 0, this 1, this 2, this 3, this 4, this 5, fun j => Lib.frozen_of_heap h.rs j⟩
theorem SQ.done {w W : World} {g0 g1 g2 : Nat} {x : Nd} {a1 a2 a3 a4 : Int} (h : SQ w W g0 g1 g2 x a1 a2 a3 a4) (hl : w.heap.size ≤ g1) (z : Nd) : Below w.heap.size w (putBox W g1 z) :=
  (((((h.be.setCell hl _).setCell hl _).setCell hl _).setCell hl _).setCell hl _).setCell hl _
theorem SQ.start {w w1 : World} (x : Nd) (a1 a2 a3 a4 : Int)
    (hb : Below ((w.alloc (.cells #[.int .i64 x.op, .int .i64 x.i, .int .i64 x.e, .int .i64 x.g, .int .i64 x.x, .int .i64 x.y] 44)).alloc (.cells #[.int .i64 0, .int .i64 0, .int .i64 0, .int .i64 0, .int .i64 0, .int .i64 0] 44)).heap.size
      ((w.alloc (.cells #[.int .i64 x.op, .int .i64 x.i, .int .i64 x.e, .int .i64 x.g, .int .i64 x.x, .int .i64 x.y] 44)).alloc (.cells #[.int .i64 0, .int .i64 0, .int .i64 0, .int .i64 0, .int .i64 0, .int .i64 0] 44)) w1) :
    SQ w (w1.alloc (.cells #[.int .i64 a1, .int .i64 a2, .int .i64 a3, .int .i64 a4] 72)) w.heap.size (w.heap.size + 1) w1.heap.size x a1 a2 a3 a4 := by
  have hs1 : (w.alloc (.cells #[.int .i64 x.op, .int .i64 x.i, .int .i64 x.e, .int .i64 x.g, .int .i64 x.x, .int .i64 x.y] 44)).heap.size = w.heap.size + 1 := by simp
  have hbx := Box.made w x 44
  have hba : Below w.heap.size w (w.alloc (.cells #[.int .i64 x.op, .int .i64 x.i, .int .i64 x.e, .int .i64 x.g, .int .i64 x.x, .int .i64 x.y] 44)) := (Below.refl _ w).alloc (Nat.le_refl _) _
  generalize w.alloc (.cells #[.int .i64 x.op, .int .i64 x.i, .int .i64 x.e, .int .i64 x.g, .int .i64 x.x, .int .i64 x.y] 44) = wa at *
  have hs2 : (wa.alloc (.cells #[.int .i64 0, .int .i64 0, .int .i64 0, .int .i64 0, .int .i64 0, .int .i64 0] 44)).heap.size = w.heap.size + 2 := by simp; omega
  have hr0 := heap_alloc_new wa (.cells #[.int .i64 0, .int .i64 0, .int .i64 0, .int .i64 0, .int .i64 0, .int .i64 0] 44)
  have hbb : Below wa.heap.size wa (wa.alloc (.cells #[.int .i64 0, .int .i64 0, .int .i64 0, .int .i64 0, .int .i64 0, .int .i64 0] 44)) := (Below.refl _ wa).alloc (Nat.le_refl _) _
  generalize wa.alloc (.cells #[.int .i64 0, .int .i64 0, .int .i64 0, .int .i64 0, .int .i64 0, .int .i64 0] 44) = wb at *
  have hbc : Below w1.heap.size w1 (w1.alloc (.cells #[.int .i64 a1, .int .i64 a2, .int .i64 a3, .int .i64 a4] 72)) := (Below.refl _ w1).alloc (Nat.le_refl _) _
  have hsh := heap_alloc_new w1 (.cells #[.int .i64 a1, .int .i64 a2, .int .i64 a3, .int .i64 a4] 72)
  generalize w1.alloc (.cells #[.int .i64 a1, .int .i64 a2, .int .i64 a3, .int .i64 a4] 72) = w2 at *
  have s1 := hb.size
  have hall : Below w.heap.size w w2 := (hba.trans (hbb.mono (by omega))).trans ((hb.mono (by omega)).trans (hbc.mono (by omega)))
  refine ⟨hbx.keep ?_, ?_, hsh, hall, Nat.le_refl _, by omega, by omega⟩
  · exact (hbc.block _ (by omega)).trans ((hb.block _ (by omega)).trans (hbb.block _ (by omega)))
  · rw [hs1] at hr0
    exact (hbc.block _ (by omega)).trans ((hb.block _ (by omega)).trans hr0)
set_option maxRecDepth 100000 in
set_option maxHeartbeats 4000000 in
theorem pShift_0 (x : Nd) (s g : Nat) (w : World) (hg : g < w.heap.size) (hc : w.cell? ⟨g, 0, none⟩ = some (.int .i64 (s : Int))) (hs : s ≤ 100000) (ho : shO x.op = 0) :
    Calls Try.prog 111 #[nv x, .func (Fn.func 114) #[] #[.pointer (some ⟨g, 0, none⟩)]] w fun e w' => e = .returned (nv x) ∧ Below w.heap.size w w' := by
  have HSH := Lib.hid (fun W => pShape_any x.op W)
  unfold shV shC at HSH
  rw [ho] at HSH
  have HCL := Lib.hid (fun (v : Int) (hv : 0 ≤ v ∧ v ≤ 100000) (W : World) (h : Below w.heap.size w W) => shiftCl_any v s g W ((h.cell (p := ⟨g, 0, none⟩) hg).trans hc) hv hs)
  unfold nv
  generalize shN x.op = q1 at *
  generalize shE x.op = q2 at *
  generalize shG x.op = q3 at *
  generalize known x.op = q4 at *
  clear ho hc
  go_enter Try.func111, Try.ntmps111
  go_wp2_with fail
  refine (HSH.out _).mono ?_
  rintro e w1 ⟨rfl, hb1⟩
  have HQ0 := Lib.hid (SQ.start x q1 q2 q3 0 hb1)
  clear hb1
  have hq3 := HQ0.out.cells
  obtain ⟨b0, b1, b2, b3, b4, b5, bf⟩ := HQ0.out.bx
  clear bf
  obtain ⟨z0, z1, z2, z3, z4, z5, zf⟩ := HQ0.out.zero
  have zf0 := zf 0
  have zf1 := zf 1
  have zf2 := zf 2
  have zf3 := zf 3
  have zf4 := zf 4
  have zf5 := zf 5
  clear zf
  go_wp2_with fail
  have HD := Lib.hid (HQ0.out.done (Nat.le_succ _) x)
  have HK := Lib.hid (putBox_block HQ0.out.rs x)
  refine bodyPost_ret (results_cell_row rfl _ _ (w.heap.size + 1) _ _ (0, 0) _ rfl HK.out Try.underlying44 rfl nodeInfo) rfl ?_
  exact ⟨rfl, HD.out⟩
set_option maxRecDepth 100000 in
set_option maxHeartbeats 4000000 in
theorem pShift_1 (x : Nd) (s g : Nat) (w : World) (hg : g < w.heap.size) (hc : w.cell? ⟨g, 0, none⟩ = some (.int .i64 (s : Int))) (hs : s ≤ 100000) (hx : 0 ≤ x.x ∧ x.x ≤ 100000) (ho : shO x.op = 1) :
    Calls Try.prog 111 #[nv x, .func (Fn.func 114) #[] #[.pointer (some ⟨g, 0, none⟩)]] w fun e w' => e = .returned (nv { x with x := x.x + (s : Int) }) ∧ Below w.heap.size w w' := by
  have HSH := Lib.hid (fun W => pShape_any x.op W)
  unfold shV shC at HSH
  rw [ho] at HSH
  have HCL := Lib.hid (fun (v : Int) (hv : 0 ≤ v ∧ v ≤ 100000) (W : World) (h : Below w.heap.size w W) => shiftCl_any v s g W ((h.cell (p := ⟨g, 0, none⟩) hg).trans hc) hv hs)
  unfold nv
  generalize shN x.op = q1 at *
  generalize shE x.op = q2 at *
  generalize shG x.op = q3 at *
  generalize known x.op = q4 at *
  clear ho hc
  go_enter Try.func111, Try.ntmps111
  go_wp2_with fail
  refine (HSH.out _).mono ?_
  rintro e w1 ⟨rfl, hb1⟩
  have HQ0 := Lib.hid (SQ.start x q1 q2 q3 1 hb1)
  clear hb1
  have hq3 := HQ0.out.cells
  obtain ⟨b0, b1, b2, b3, b4, b5, bf⟩ := HQ0.out.bx
  have bf4 := bf 4
  clear bf
  obtain ⟨z0, z1, z2, z3, z4, z5, zf⟩ := HQ0.out.zero
  have zf0 := zf 0
  have zf1 := zf 1
  have zf2 := zf 2
  have zf3 := zf 3
  have zf4 := zf 4
  have zf5 := zf 5
  clear zf
  go_wp2_with fail
  refine (HCL.out _ hx _ HQ0.out.be).mono ?_
  rintro e w3 ⟨rfl, rfl⟩
  have hn02 := HQ0.out.n02
  have hn01 := HQ0.out.n01
  have HQ2 := Lib.hid (HQ0.out.set (HQ0.out.bx.setX (x.x + (s : Int))))
  go_wp2_with fail
  have HD := Lib.hid (HQ2.out.done (Nat.le_succ _) { x with x := x.x + (s : Int) })
  have HK := Lib.hid (putBox_block HQ2.out.rs { x with x := x.x + (s : Int) })
  refine bodyPost_ret (results_cell_row rfl _ _ (w.heap.size + 1) _ _ (0, 0) _ rfl HK.out Try.underlying44 rfl nodeInfo) rfl ?_
  exact ⟨rfl, HD.out⟩
set_option maxRecDepth 100000 in
set_option maxHeartbeats 4000000 in
theorem pShift_2 (x : Nd) (s g : Nat) (w : World) (hg : g < w.heap.size) (hc : w.cell? ⟨g, 0, none⟩ = some (.int .i64 (s : Int))) (hs : s ≤ 100000) (hx : 0 ≤ x.x ∧ x.x ≤ 100000) (hy : 0 ≤ x.y ∧ x.y ≤ 100000) (ho : shO x.op = 2) :
    Calls Try.prog 111 #[nv x, .func (Fn.func 114) #[] #[.pointer (some ⟨g, 0, none⟩)]] w fun e w' => e = .returned (nv { x with x := x.x + (s : Int), y := x.y + (s : Int) }) ∧ Below w.heap.size w w' := by
  have HSH := Lib.hid (fun W => pShape_any x.op W)
  unfold shV shC at HSH
  rw [ho] at HSH
  have HCL := Lib.hid (fun (v : Int) (hv : 0 ≤ v ∧ v ≤ 100000) (W : World) (h : Below w.heap.size w W) => shiftCl_any v s g W ((h.cell (p := ⟨g, 0, none⟩) hg).trans hc) hv hs)
  unfold nv
  generalize shN x.op = q1 at *
  generalize shE x.op = q2 at *
  generalize shG x.op = q3 at *
  generalize known x.op = q4 at *
  clear ho hc
  go_enter Try.func111, Try.ntmps111
  go_wp2_with fail
  refine (HSH.out _).mono ?_
  rintro e w1 ⟨rfl, hb1⟩
  have HQ0 := Lib.hid (SQ.start x q1 q2 q3 2 hb1)
  clear hb1
  have hq3 := HQ0.out.cells
  obtain ⟨b0, b1, b2, b3, b4, b5, bf⟩ := HQ0.out.bx
  have bf4 := bf 4
  have bf5 := bf 5
  clear bf
  obtain ⟨z0, z1, z2, z3, z4, z5, zf⟩ := HQ0.out.zero
  have zf0 := zf 0
  have zf1 := zf 1
  have zf2 := zf 2
  have zf3 := zf 3
  have zf4 := zf 4
  have zf5 := zf 5
  clear zf
  go_wp2_with fail
  refine (HCL.out _ hx _ HQ0.out.be).mono ?_
  rintro e w3 ⟨rfl, rfl⟩
  have hn02 := HQ0.out.n02
  have hn01 := HQ0.out.n01
  have HQ2 := Lib.hid (HQ0.out.set (HQ0.out.bx.setX (x.x + (s : Int))))
  go_wp2_with fail
  refine (HCL.out _ hy _ HQ2.out.be).mono ?_
  rintro e w3 ⟨rfl, rfl⟩
  have HQ4 := Lib.hid (HQ2.out.set (HQ2.out.bx.setY (x.y + (s : Int))))
  go_wp2_with fail
  have HD := Lib.hid (HQ4.out.done (Nat.le_succ _) { x with x := x.x + (s : Int), y := x.y + (s : Int) })
  have HK := Lib.hid (putBox_block HQ4.out.rs { x with x := x.x + (s : Int), y := x.y + (s : Int) })
  refine bodyPost_ret (results_cell_row rfl _ _ (w.heap.size + 1) _ _ (0, 0) _ rfl HK.out Try.underlying44 rfl nodeInfo) rfl ?_
  exact ⟨rfl, HD.out⟩
theorem pShift_any (x : Nd) (k s g : Nat) (w : World) (hg : g < w.heap.size) (hc : w.cell? ⟨g, 0, none⟩ = some (.int .i64 (s : Int))) (hs : s ≤ 100000) (hk : k ≤ 100000) (ho : opsOk x k) :
    Calls Try.prog 111 #[nv x, .func (Fn.func 114) #[] #[.pointer (some ⟨g, 0, none⟩)]] w fun e w' => e = .returned (nv (shiftN s x)) ∧ Below w.heap.size w w' := by
  cases hx : usesX x.op with
  | false =>
    have hy : usesY x.op = false := by
      cases hq : usesY x.op
      · rfl
      · rw [usesY_X hq] at hx; cases hx
    have e : shiftN s x = x := by unfold shiftN; rw [hx, hy]; rfl
    rw [e]
    exact pShift_0 x s g w hg hc hs (shO_0 hy hx)
  | true =>
    have ox := opsOk_x ho hx
    cases hy : usesY x.op with
    | false =>
      have e : shiftN s x = { x with x := x.x + (s : Int) } := by unfold shiftN; rw [hx, hy]; rfl
      rw [e]
      exact pShift_1 x s g w hg hc hs (by omega) (shO_1 hy hx)
    | true =>
      have oy := opsOk_y ho hy
      have e : shiftN s x = { x with x := x.x + (s : Int), y := x.y + (s : Int) } := by unfold shiftN; rw [hx, hy]; rfl
      rw [e]
      exact pShift_2 x s g w hg hc hs (by omega) (by omega) (shO_2 hy)
end Go.Proofs.Ytcbmncafmofcpaa
