/- Layer 6: texts joined: Mg Mh Mi Mj Mu Mv Mw Mx Me Kzd Mr Na Tv Tw. -/
import Derived.Test.YthhkeobjjeldhaaDoorJa
import Derived.Test.YthhkeobjjeldhaaDoorJk
import Derived.Test.YthhkeobjjeldhaaDoorJl
import Derived.Test.YthhkeobjjeldhaaDoorJn
import Derived.Test.YthhkeobjjeldhaaDoorJo
/- Layer 5: renumber by a shift. -/
namespace Go.Proofs.Ws
open Go
/-- a node with its operands moved -/
def shiftN (s : Nat) (n : Nd) : Nd := { n with x := if usesX n.op = true then n.x + s else n.x, y := if usesY n.op = true then n.y + s else n.y }
end Go.Proofs.Ws
namespace Go.Proofs.YthhkeobjjeldhaaDoor
open Go.RowKit Go.Proofs.Ws Go.Maps
theorem shiftCl_any (v : Int) (s g : Nat) (w : World) (hc : w.cell? ⟨g, 0, none⟩ = some (.int .i64 (s : Int))) (hv : 0 ≤ v ∧ v ≤ 100000) (hs : s ≤ 100000) :
    Calls Tryd.prog 87 #[.int .i64 v, .pointer (some ⟨g, 0, none⟩)] w fun e w' => e = .returned (.int .i64 (v + s)) ∧ w = w' := by
  have h1 : wrap64 (v + (s : Int)) = v + s := by unfold wrap64; omega
  have h2 : IntKind.i64.wrap (v + (s : Int)) = v + s := by rw [IntKind.wrap_i64]; omega
  go_enter Tryd.func87, Tryd.ntmps87
  go_wp2
  go_ret
  exact ⟨rfl, rfl⟩
/-- the boxes of renumber, where the closure only reads -/
structure SQ (w W : World) (g0 g1 g2 : Nat) (x : Nd) (a1 a2 a3 a4 : Int) : Prop where
  bx : Box W g0 x
  rs : W.heap[g1]? = some (.cells #[.int .i64 0, .int .i64 0, .int .i64 0, .int .i64 0, .int .i64 0, .int .i64 0] 47 (0, 0))
  sh : W.heap[g2]? = some (.cells #[.int .i64 a1, .int .i64 a2, .int .i64 a3, .int .i64 a4] 71 (0, 0))
  be : Below w.heap.size w W
  l0 : w.heap.size ≤ g0
  n01 : g0 ≠ g1
  n02 : g0 ≠ g2
theorem SQ.set {w W : World} {g0 g1 g2 j : Nat} {x x' : Nd} {a1 a2 a3 a4 : Int} {v : Value} (h : SQ w W g0 g1 g2 x a1 a2 a3 a4) (hx : Box (W.setCell ⟨g0, j, none⟩ v) g0 x') : SQ w (W.setCell ⟨g0, j, none⟩ v) g0 g1 g2 x' a1 a2 a3 a4 :=
  ⟨hx, (Below.heap_setCell _ _ _ _ h.n01.symm).trans h.rs, (Below.heap_setCell _ _ _ _ h.n02.symm).trans h.sh, h.be.setCell h.l0 _, h.l0, h.n01, h.n02⟩
theorem SQ.cells {w W : World} {g0 g1 g2 : Nat} {x : Nd} {a1 a2 a3 a4 : Int} (h : SQ w W g0 g1 g2 x a1 a2 a3 a4) : W.cell? ⟨g2, 3, none⟩ = some (.int .i64 a4) := Lib.cell_of_heap h.sh 3
theorem SQ.zero {w W : World} {g0 g1 g2 : Nat} {x : Nd} {a1 a2 a3 a4 : Int} (h : SQ w W g0 g1 g2 x a1 a2 a3 a4) : Box W g1 ⟨0, 0, 0, 0, 0, 0⟩ := by
  have := Lib.cell_of_heap h.rs
  exact ⟨this 0, this 1, this 2, this 3, this 4, this 5, fun j => Lib.frozen_of_heap h.rs j⟩
theorem SQ.done {w W : World} {g0 g1 g2 : Nat} {x : Nd} {a1 a2 a3 a4 : Int} (h : SQ w W g0 g1 g2 x a1 a2 a3 a4) (hl : w.heap.size ≤ g1) (z : Nd) : Below w.heap.size w (putBox W g1 z) :=
  (((((h.be.setCell hl _).setCell hl _).setCell hl _).setCell hl _).setCell hl _).setCell hl _
theorem SQ.start {w w1 : World} (x : Nd) (a1 a2 a3 a4 : Int)
    (hb : Below ((w.alloc (.cells #[.int .i64 x.op, .int .i64 x.i, .int .i64 x.e, .int .i64 x.g, .int .i64 x.x, .int .i64 x.y] 47)).alloc (.cells #[.int .i64 0, .int .i64 0, .int .i64 0, .int .i64 0, .int .i64 0, .int .i64 0] 47)).heap.size
      ((w.alloc (.cells #[.int .i64 x.op, .int .i64 x.i, .int .i64 x.e, .int .i64 x.g, .int .i64 x.x, .int .i64 x.y] 47)).alloc (.cells #[.int .i64 0, .int .i64 0, .int .i64 0, .int .i64 0, .int .i64 0, .int .i64 0] 47)) w1) :
    SQ w (w1.alloc (.cells #[.int .i64 a1, .int .i64 a2, .int .i64 a3, .int .i64 a4] 71)) w.heap.size (w.heap.size + 1) w1.heap.size x a1 a2 a3 a4 := by
  have hs1 : (w.alloc (.cells #[.int .i64 x.op, .int .i64 x.i, .int .i64 x.e, .int .i64 x.g, .int .i64 x.x, .int .i64 x.y] 47)).heap.size = w.heap.size + 1 := by simp
  have hbx := Box.made w x 47
  have hba : Below w.heap.size w (w.alloc (.cells #[.int .i64 x.op, .int .i64 x.i, .int .i64 x.e, .int .i64 x.g, .int .i64 x.x, .int .i64 x.y] 47)) := (Below.refl _ w).alloc (Nat.le_refl _) _
  generalize w.alloc (.cells #[.int .i64 x.op, .int .i64 x.i, .int .i64 x.e, .int .i64 x.g, .int .i64 x.x, .int .i64 x.y] 47) = wa at *
  have hs2 : (wa.alloc (.cells #[.int .i64 0, .int .i64 0, .int .i64 0, .int .i64 0, .int .i64 0, .int .i64 0] 47)).heap.size = w.heap.size + 2 := by simp; omega
  have hr0 := heap_alloc_new wa (.cells #[.int .i64 0, .int .i64 0, .int .i64 0, .int .i64 0, .int .i64 0, .int .i64 0] 47)
  have hbb : Below wa.heap.size wa (wa.alloc (.cells #[.int .i64 0, .int .i64 0, .int .i64 0, .int .i64 0, .int .i64 0, .int .i64 0] 47)) := (Below.refl _ wa).alloc (Nat.le_refl _) _
  generalize wa.alloc (.cells #[.int .i64 0, .int .i64 0, .int .i64 0, .int .i64 0, .int .i64 0, .int .i64 0] 47) = wb at *
  have hbc : Below w1.heap.size w1 (w1.alloc (.cells #[.int .i64 a1, .int .i64 a2, .int .i64 a3, .int .i64 a4] 71)) := (Below.refl _ w1).alloc (Nat.le_refl _) _
  have hsh := heap_alloc_new w1 (.cells #[.int .i64 a1, .int .i64 a2, .int .i64 a3, .int .i64 a4] 71)
  generalize w1.alloc (.cells #[.int .i64 a1, .int .i64 a2, .int .i64 a3, .int .i64 a4] 71) = w2 at *
  have s1 := hb.size
  have hall : Below w.heap.size w w2 := (hba.trans (hbb.mono (by omega))).trans ((hb.mono (by omega)).trans (hbc.mono (by omega)))
  refine ⟨hbx.keep ?_, ?_, hsh, hall, Nat.le_refl _, by omega, by omega⟩
  · exact (hbc.block _ (by omega)).trans ((hb.block _ (by omega)).trans (hbb.block _ (by omega)))
  · rw [hs1] at hr0
    exact (hbc.block _ (by omega)).trans ((hb.block _ (by omega)).trans hr0)
set_option maxRecDepth 100000 in
set_option maxHeartbeats 4000000 in
theorem pShift_0 (x : Nd) (s g : Nat) (w : World) (hg : g < w.heap.size) (hc : w.cell? ⟨g, 0, none⟩ = some (.int .i64 (s : Int))) (hs : s ≤ 100000) (ho : shO x.op = 0) :
    Calls Tryd.prog 86 #[nv x, .func (Fn.func 87) #[] #[.pointer (some ⟨g, 0, none⟩)]] w fun e w' => e = .returned (nv x) ∧ Below w.heap.size w w' := by
  have HSH := Lib.hid (fun W => pShape_any x.op W)
  unfold shV shC at HSH
  rw [ho] at HSH
  have HCL := Lib.hid (fun (v : Int) (hv : 0 ≤ v ∧ v ≤ 100000) (W : World) (h : Below w.heap.size w W) => shiftCl_any v s g W ((h.cell (p := ⟨g, 0, none⟩) hg).trans hc) hv hs)
  unfold nv
  generalize shN x.op = q1 at *
  generalize shE x.op = q2 at *
  generalize shG x.op = q3 at *
  generalize known x.op = q4 at *
  clear ho hc
  go_enter Tryd.func86, Tryd.ntmps86
  go_wp2_with fail
  refine (HSH.out _).mono ?_
  rintro e w1 ⟨rfl, hb1⟩
  have HQ0 := Lib.hid (SQ.start x q1 q2 q3 0 hb1)
  clear hb1
  have hq3 := HQ0.out.cells
  obtain ⟨b0, b1, b2, b3, b4, b5, bf⟩ := HQ0.out.bx
  clear bf
  obtain ⟨z0, z1, z2, z3, z4, z5, zf⟩ := HQ0.out.zero
  have zf0 := zf 0
  have zf1 := zf 1
  have zf2 := zf 2
  have zf3 := zf 3
  have zf4 := zf 4
  have zf5 := zf 5
  clear zf
  go_wp2_with fail
  have HD := Lib.hid (HQ0.out.done (Nat.le_succ _) x)
  have HK := Lib.hid (putBox_block HQ0.out.rs x)
  refine bodyPost_ret (results_cell_row rfl _ _ (w.heap.size + 1) _ _ (0, 0) _ rfl HK.out Tryd.underlying47 rfl nodeInfo) rfl ?_
  exact ⟨rfl, HD.out⟩
set_option maxRecDepth 100000 in
set_option maxHeartbeats 4000000 in
theorem pShift_1 (x : Nd) (s g : Nat) (w : World) (hg : g < w.heap.size) (hc : w.cell? ⟨g, 0, none⟩ = some (.int .i64 (s : Int))) (hs : s ≤ 100000) (hx : 0 ≤ x.x ∧ x.x ≤ 100000) (ho : shO x.op = 1) :
    Calls Tryd.prog 86 #[nv x, .func (Fn.func 87) #[] #[.pointer (some ⟨g, 0, none⟩)]] w fun e w' => e = .returned (nv { x with x := x.x + (s : Int) }) ∧ Below w.heap.size w w' := by
  have HSH := Lib.hid (fun W => pShape_any x.op W)
  unfold shV shC at HSH
  rw [ho] at HSH
  have HCL := Lib.hid (fun (v : Int) (hv : 0 ≤ v ∧ v ≤ 100000) (W : World) (h : Below w.heap.size w W) => shiftCl_any v s g W ((h.cell (p := ⟨g, 0, none⟩) hg).trans hc) hv hs)
  unfold nv
  generalize shN x.op = q1 at *
  generalize shE x.op = q2 at *
  generalize shG x.op = q3 at *
  generalize known x.op = q4 at *
  clear ho hc
  go_enter Tryd.func86, Tryd.ntmps86
  go_wp2_with fail
  refine (HSH.out _).mono ?_
  rintro e w1 ⟨rfl, hb1⟩
  have HQ0 := Lib.hid (SQ.start x q1 q2 q3 1 hb1)
  clear hb1
  have hq3 := HQ0.out.cells
  obtain ⟨b0, b1, b2, b3, b4, b5, bf⟩ := HQ0.out.bx
  have bf4 := bf 4
  clear bf
  obtain ⟨z0, z1, z2, z3, z4, z5, zf⟩ := HQ0.out.zero
  have zf0 := zf 0
  have zf1 := zf 1
  have zf2 := zf 2
  have zf3 := zf 3
  have zf4 := zf 4
  have zf5 := zf 5
  clear zf
  go_wp2_with fail
  refine (HCL.out _ hx _ HQ0.out.be).mono ?_
  rintro e w3 ⟨rfl, rfl⟩
  have hn02 := HQ0.out.n02
  have hn01 := HQ0.out.n01
  have HQ2 := Lib.hid (HQ0.out.set (HQ0.out.bx.setX (x.x + (s : Int))))
  go_wp2_with fail
  have HD := Lib.hid (HQ2.out.done (Nat.le_succ _) { x with x := x.x + (s : Int) })
  have HK := Lib.hid (putBox_block HQ2.out.rs { x with x := x.x + (s : Int) })
  refine bodyPost_ret (results_cell_row rfl _ _ (w.heap.size + 1) _ _ (0, 0) _ rfl HK.out Tryd.underlying47 rfl nodeInfo) rfl ?_
  exact ⟨rfl, HD.out⟩
set_option maxRecDepth 100000 in
set_option maxHeartbeats 4000000 in
theorem pShift_2 (x : Nd) (s g : Nat) (w : World) (hg : g < w.heap.size) (hc : w.cell? ⟨g, 0, none⟩ = some (.int .i64 (s : Int))) (hs : s ≤ 100000) (hx : 0 ≤ x.x ∧ x.x ≤ 100000) (hy : 0 ≤ x.y ∧ x.y ≤ 100000) (ho : shO x.op = 2) :
    Calls Tryd.prog 86 #[nv x, .func (Fn.func 87) #[] #[.pointer (some ⟨g, 0, none⟩)]] w fun e w' => e = .returned (nv { x with x := x.x + (s : Int), y := x.y + (s : Int) }) ∧ Below w.heap.size w w' := by
  have HSH := Lib.hid (fun W => pShape_any x.op W)
  unfold shV shC at HSH
  rw [ho] at HSH
  have HCL := Lib.hid (fun (v : Int) (hv : 0 ≤ v ∧ v ≤ 100000) (W : World) (h : Below w.heap.size w W) => shiftCl_any v s g W ((h.cell (p := ⟨g, 0, none⟩) hg).trans hc) hv hs)
  unfold nv
  generalize shN x.op = q1 at *
  generalize shE x.op = q2 at *
  generalize shG x.op = q3 at *
  generalize known x.op = q4 at *
  clear ho hc
  go_enter Tryd.func86, Tryd.ntmps86
  go_wp2_with fail
  refine (HSH.out _).mono ?_
  rintro e w1 ⟨rfl, hb1⟩
  have HQ0 := Lib.hid (SQ.start x q1 q2 q3 2 hb1)
  clear hb1
  have hq3 := HQ0.out.cells
  obtain ⟨b0, b1, b2, b3, b4, b5, bf⟩ := HQ0.out.bx
  have bf4 := bf 4
  have bf5 := bf 5
  clear bf
  obtain ⟨z0, z1, z2, z3, z4, z5, zf⟩ := HQ0.out.zero
  have zf0 := zf 0
  have zf1 := zf 1
  have zf2 := zf 2
  have zf3 := zf 3
  have zf4 := zf 4
  have zf5 := zf 5
  clear zf
  go_wp2_with fail
  refine (HCL.out _ hx _ HQ0.out.be).mono ?_
  rintro e w3 ⟨rfl, rfl⟩
  have hn02 := HQ0.out.n02
  have hn01 := HQ0.out.n01
  have HQ2 := Lib.hid (HQ0.out.set (HQ0.out.bx.setX (x.x + (s : Int))))
  go_wp2_with fail
  refine (HCL.out _ hy _ HQ2.out.be).mono ?_
  rintro e w3 ⟨rfl, rfl⟩
  have HQ4 := Lib.hid (HQ2.out.set (HQ2.out.bx.setY (x.y + (s : Int))))
  go_wp2_with fail
  have HD := Lib.hid (HQ4.out.done (Nat.le_succ _) { x with x := x.x + (s : Int), y := x.y + (s : Int) })
  have HK := Lib.hid (putBox_block HQ4.out.rs { x with x := x.x + (s : Int), y := x.y + (s : Int) })
  refine bodyPost_ret (results_cell_row rfl _ _ (w.heap.size + 1) _ _ (0, 0) _ rfl HK.out Tryd.underlying47 rfl nodeInfo) rfl ?_
  exact ⟨rfl, HD.out⟩
theorem pShift_any (x : Nd) (k s g : Nat) (w : World) (hg : g < w.heap.size) (hc : w.cell? ⟨g, 0, none⟩ = some (.int .i64 (s : Int))) (hs : s ≤ 100000) (hk : k ≤ 100000) (ho : opsOk x k) :
    Calls Tryd.prog 86 #[nv x, .func (Fn.func 87) #[] #[.pointer (some ⟨g, 0, none⟩)]] w fun e w' => e = .returned (nv (shiftN s x)) ∧ Below w.heap.size w w' := by
  cases hx : usesX x.op with
  | false =>
    have hy : usesY x.op = false := by
      cases hq : usesY x.op
      · rfl
      · rw [usesY_X hq] at hx; cases hx
    have e : shiftN s x = x := by unfold shiftN; rw [hx, hy]; rfl
    rw [e]
    exact pShift_0 x s g w hg hc hs (shO_0 hy hx)
  | true =>
    have ox := opsOk_x ho hx
    cases hy : usesY x.op with
    | false =>
      have e : shiftN s x = { x with x := x.x + (s : Int) } := by unfold shiftN; rw [hx, hy]; rfl
      rw [e]
      exact pShift_1 x s g w hg hc hs (by omega) (shO_1 hy hx)
    | true =>
      have oy := opsOk_y ho hy
      have e : shiftN s x = { x with x := x.x + (s : Int), y := x.y + (s : Int) } := by unfold shiftN; rw [hx, hy]; rfl
      rw [e]
      exact pShift_2 x s g w hg hc hs (by omega) (by omega) (shO_2 hy)
end Go.Proofs.YthhkeobjjeldhaaDoor
/- Layer 5: appendShifted. -/
namespace Go.Proofs.YthhkeobjjeldhaaDoor
open Go.RowKit Go.Proofs.Ws Go.Maps
theorem int_block {W : World} {g : Nat} {cs : Array Value} {b n : Nat} {v : Value} {xs : List Value} (h : W.heap[g]? = some (.cells cs 3 (0, 0))) (ho : W.ownsRow b 47 6 v n xs) : v.ownBlock ≠ some g := by
  intro e
  obtain ⟨cur, h2⟩ := own_type ho e
  rw [h] at h2
  injection h2 with h2
  injection h2 with _ h3
  exact absurd h3 (by decide)
set_option maxRecDepth 100000 in
set_option maxHeartbeats 4000000 in
theorem pAppS_any (l f : List Nd) (A : Option Addr) (n c b0 : Nat) (v : Value) (w : World) (hf : opsL f) (hn : n ≤ 300) (hl3 : l.length ≤ 300) (hb0 : b0 ≤ w.heap.size) (hR : Reads w b0 6 A n (nds f)) (hown : w.ownsRow b0 47 6 v l.length (nds l)) :
    Calls Tryd.prog 72 #[v, .slice A n c] w fun e w' => ∃ v', e = .returned v' ∧ w'.ownsRow b0 47 6 v' (l ++ f.map (shiftN l.length)).length (nds (l ++ f.map (shiftN l.length))) ∧ Below b0 w w' := by
  obtain ⟨A0, c0, rfl⟩ := own_sl hown
  have hl := hR.nd_len
  have HLN := Lib.hid hl
  have HR := Lib.hid hR
  have HF := Lib.hid hf
  have HS0 : Hid ((w.alloc (.cells #[.int .i64 (l.length : Int)] 3)).heap[w.heap.size]? = some (.cells #[.int .i64 (l.length : Int)] 3 (0, 0))) := Lib.hid (heap_alloc_new w _)
  have HO0 : (w.alloc (.cells #[.int .i64 (l.length : Int)] 3)).ownsRow b0 47 6 (.slice A0 l.length c0) l.length (nds l) := own_keep1 hown (fun g hg => Below.heap_alloc w _ g (hown.lt g hg).2)
  have HB0 : Hid (Below b0 w (w.alloc (.cells #[.int .i64 (l.length : Int)] 3))) := Lib.hid ((Below.refl _ w).alloc hb0 _)
  have hs0 : w.heap.size < (w.alloc (.cells #[.int .i64 (l.length : Int)] 3)).heap.size := by simp
  clear hR hl hf hown
  go_enter Tryd.func72, Tryd.ntmps72
  go_wp2
  generalize w.alloc (.cells #[.int .i64 (l.length : Int)] 3) = w1 at *
  go_loopw [0, 7, 12] (fun u0 u7 i wr => ∃ (k : Nat), k ≤ n ∧ i = .int .i64 k ∧ Hid (wr.ownsRow b0 47 6 u0 (l ++ (f.take k).map (shiftN l.length)).length (nds (l ++ (f.take k).map (shiftN l.length)))) ∧ Hid (wr.heap[w.heap.size]? = some (.cells #[.int .i64 (l.length : Int)] 3 (0, 0))) ∧ Hid (Below b0 w wr)) (fun _ _ i _ => n - (intOf i).toNat)
  case atStart => exact ⟨0, Nat.zero_le _, rfl, Lib.hid (by simpa using HO0), HS0, HB0⟩
  case round =>
    obtain ⟨k, hk, rfl, HO, HS, HB⟩ := hrel
    by_cases hlt : k < n
    · obtain ⟨ad, rfl, hb, m0, m1, m2, m3, m4, m5⟩ := (HR.out.below HB.out).nd_at hlt
      have ho := HF.out k (by have := HLN.out; omega)
      obtain ⟨x, hx⟩ : ∃ x, f.getD k nd0 = x := ⟨_, rfl⟩
      rw [hx] at m0 m1 m2 m3 m4 m5 ho
      have l1 := add_cell m1
      have l2 := add_cell m2
      have l3 := add_cell m3
      have l4 := add_cell m4
      have l5 := add_cell m5
      have HT : Hid (l ++ (f.take (k + 1)).map (shiftN l.length) = (l ++ (f.take k).map (shiftN l.length)) ++ [shiftN l.length x]) := Lib.hid (by
        have hkf : k < f.length := by have := HLN.out; omega
        have e2 : f[k] = x := by rw [← hx]; simp [hkf]
        rw [List.take_succ_eq_append_getElem hkf, List.map_append, ← List.append_assoc, e2]; rfl)
      have hlen : (l ++ (f.take k).map (shiftN l.length)).length = l.length + k := by
        have := HLN.out
        simp; omega
      have hgs : w.heap.size < wr.heap.size := (Array.getElem?_eq_some_iff.1 HS.out).1
      have HRN := Lib.hid (fun (W : World) (h : Below wr.heap.size wr W) => pShift_any x k l.length w.heap.size W (by have := h.size; omega) (by
        rw [Lib.cell_of_heap ((h.block _ hgs).trans HS.out)]; rfl) (by omega) (by omega) ho)
      unfold nv at HRN
      have HWB : Hid (∀ o, Below wr.heap.size wr (wr.alloc o)) := Lib.hid (fun o => (Below.refl _ wr).alloc (Nat.le_refl _) o)
      clear hx ho
      generalize shiftN l.length x = z at *
      generalize l ++ (f.take k).map (shiftN l.length) = L at *
      go_wp2_with fail
      refine (HRN.out _ (HWB.out _)).mono ?_
      rintro e w4 ⟨rfl, hb4⟩
      have HB4 : Hid (Below wr.heap.size wr w4) := Lib.hid ((HWB.out _).trans (hb4.mono (HWB.out (.cells #[.int .i64 x.op, .int .i64 x.i, .int .i64 x.e, .int .i64 x.g, .int .i64 x.x, .int .i64 x.y] 47)).size))
      clear hb4 m0 m1 m2 m3 m4 m5 l1 l2 l3 l4 l5
      have hown4 : w4.ownsRow b0 47 6 u0 L.length (nds L) := own_keep1 HO.out (fun g hg => HB4.out.block g (HO.out.lt g hg).2)
      have HOW := Lib.hid hown4
      have HS4 := Lib.hid ((HB4.out.block _ hgs).trans HS.out)
      have hsz4 := HB4.out.size
      have hszb := HB.out.size
      clear hown4
      go_wp2_with (at_builtin; refine wp_appN z _ rfl _ _ rfl b0 _ _ rfl (HOW.out.alloc _) rfl ?k1 ?k2 ?k3 ?_)
      case k1 =>
        intro j u hj
        have hh := heap_alloc_new w4 (.cells #[.int .i64 z.op, .int .i64 z.i, .int .i64 z.e, .int .i64 z.g, .int .i64 z.x, .int .i64 z.y] 47)
        have := Lib.cell_of_heap hh j
        rw [this, ← hj]
        simp [ndC]
      case k2 => omega
      case k3 => simp; omega
      · intro v' w5 hown5 hgrow
        have HO5 : Hid (w5.ownsRow b0 47 6 v' (l ++ (f.take (k + 1)).map (shiftN l.length)).length (nds (l ++ (f.take (k + 1)).map (shiftN l.length)))) := Lib.hid (by
          rw [HT.out]
          have e : (L ++ [z]).length = l.length + k + 1 := by rw [List.length_append, hlen]; rfl
          rw [e]
          exact hown5)
        have HS5 := Lib.hid ((hgrow.block w.heap.size (by simp; omega) (fun e => int_block HS4.out HOW.out e.symm)).trans ((Below.heap_alloc w4 _ _ (by omega)).trans HS4.out))
        have HB5 : Hid (Below b0 w w5) := Lib.hid (((HB.out.trans (HB4.out.mono (by omega))).alloc (by omega) _).grown hgrow (by simp; omega) (fun g hg => (HOW.out.lt g hg).1))
        clear hown5 hgrow
        go_wp2
        go_roundw
        case rel => exact ⟨k + 1, by omega, by go_num, HO5, HS5, HB5⟩
        case measure => simp [intOf]; omega
    · have hkn : f.take k = f := by rw [List.take_of_length_le]; have := HLN.out; omega
      rw [hkn] at HO
      go_wp2
      go_ret
      exact ⟨_, rfl, HO.out, HB.out⟩
end Go.Proofs.YthhkeobjjeldhaaDoor
/- Layer 5: build. -/
namespace Go.Proofs.Ws
open Go
/-- the lists one behind the other, with operands at their new places -/
def catS : List (List Nd) → List Nd → List Nd
  | [], l => l
  | f :: fs, l => catS fs (l ++ f.map (shiftN l.length))
/-- the node behind the lists of its operands -/
def lastN (n : Nd) (fs : List (List Nd)) : Nd :=
  match fs with
  | [] => n
  | [f] => { n with x := (f.length : Int) - 1 }
  | [f, g] => { n with x := (f.length : Int) - 1, y := (f.length + g.length : Int) - 1 }
  | _ => n
def buildF (n : Nd) (fs : List (List Nd)) : List Nd :=
  if rangeOk n = false then [] else if ∃ f ∈ fs, fErr f ≠ 0 then [] else
  if 200 < (canonF (catS fs [] ++ [lastN n fs])).length then [] else canonF (catS fs [] ++ [lastN n fs])
end Go.Proofs.Ws
namespace Go.Proofs.YthhkeobjjeldhaaDoor
open Go.RowKit Go.Proofs.Ws Go.Maps
/-- two numbers in a block -/
def EB (W : World) (g : Nat) (e0 e1 : Int) : Prop := W.cell? ⟨g, 0, none⟩ = some (.int .i64 e0) ∧ W.cell? ⟨g, 1, none⟩ = some (.int .i64 e1) ∧ (∀ j, W.frozen? ⟨g, j, none⟩ = false)
theorem EB.keep {W W' : World} {g : Nat} {e0 e1 : Int} (h : EB W g e0 e1) (hb : W'.heap[g]? = W.heap[g]?) : EB W' g e0 e1 :=
  ⟨(World.cell?_of_block (a := ⟨g, 0, none⟩) hb).trans h.1, (World.cell?_of_block (a := ⟨g, 1, none⟩) hb).trans h.2.1, fun j => (World.frozen?_of_block (a := ⟨g, j, none⟩) hb).trans (h.2.2 j)⟩
theorem EB.set {W : World} {g : Nat} {e0 e1 : Int} (h : EB W g e0 e1) {k : Nat} (hk : k < 2) (v : Int) : EB (W.setCell ⟨g, k, none⟩ (.int .i64 v)) g (if k = 0 then v else e0) (if k = 1 then v else e1) := by
  obtain ⟨h0, h1, hf⟩ := h
  match k, hk with
  | 0, _ => exact ⟨World.cell?_setCell_same W _ _ h0, (World.cell?_setCell_other W ⟨g, 0, none⟩ ⟨g, 1, none⟩ _ (by simp)).trans h1, fun j => by rw [World.frozen?_setCell]; exact hf j⟩
  | 1, _ => exact ⟨(World.cell?_setCell_other W ⟨g, 1, none⟩ ⟨g, 0, none⟩ _ (by simp)).trans h0, World.cell?_setCell_same W _ _ h1, fun j => by rw [World.frozen?_setCell]; exact hf j⟩
theorem EB.made (w : World) (t : TypeId) : EB (w.alloc (.cells #[.int .i64 0, .int .i64 0] t)) w.heap.size 0 0 := by
  have hh := heap_alloc_new w (.cells #[.int .i64 0, .int .i64 0] t)
  have hc := Lib.cell_of_heap hh
  exact ⟨hc 0, hc 1, fun j => Lib.frozen_of_heap hh j⟩
theorem catS_app : ∀ (fs : List (List Nd)) (f : List Nd) (l : List Nd), catS (fs ++ [f]) l = catS fs l ++ f.map (shiftN (catS fs l).length)
  | [], _f, _l => rfl
  | _g :: fs, f, _l => catS_app fs f _
def catKn (fs : List (List Nd)) (k : Nat) : List Nd := catS (fs.take k) []
theorem catK_succ (fs : List (List Nd)) (k : Nat) (h : k < fs.length) : catKn fs (k + 1) = catKn fs k ++ (fs.getD k []).map (shiftN (catKn fs k).length) := by
  unfold catKn
  rw [List.take_succ_eq_append_getElem h, catS_app, show fs.getD k [] = fs[k] from by simp [h]]
/-- the end of the list of operand j, as it stands after k rounds -/
def endK (fs : List (List Nd)) (k j : Nat) : Int := if j < k then ((catKn fs (j + 1)).length : Int) - 1 else 0
theorem endK_succ (fs : List (List Nd)) (k j : Nat) : endK fs (k + 1) j = if k = j then ((catKn fs (k + 1)).length : Int) - 1 else endK fs k j := by
  unfold endK
  by_cases e : k = j
  · subst e; rw [if_pos (by omega), if_pos rfl]
  · rw [if_neg e]
    by_cases h : j < k
    · rw [if_pos h, if_pos (by omega)]
    · rw [if_neg h, if_neg (by omega)]
theorem lastN_eq (n : Nd) (fs : List (List Nd)) (hx : n.x = 0) (hy : n.y = 0) (h : fs.length ≤ 2) : lastN n fs = { n with x := endK fs fs.length 0, y := endK fs fs.length 1 } := by
  match fs, h with
  | [], _ =>
    unfold lastN endK
    obtain ⟨a, b, c, d, e, f⟩ := n
    simp at hx hy; simp [hx, hy]
  | [f], _ =>
    unfold lastN endK catKn catS
    obtain ⟨a, b, c, d, e, f⟩ := n
    simp at hx hy; simp [hy, catS]
  | [f, g], _ =>
    unfold lastN endK catKn catS
    obtain ⟨a, b, c, d, e, f⟩ := n
    simp [catS]
set_option maxRecDepth 100000 in
set_option maxHeartbeats 4000000 in
theorem pBuild_any (n : Nd) (fs : List (List Nd)) (vs : List Value) (A : Option Addr) (c : Nat) (w : World) (hx : n.x = 0) (hy : n.y = 0) (hlen : fs.length ≤ 2) (hv : Reads w w.heap.size 1 A fs.length vs)
    (hvs : ∀ j, j < fs.length → ∃ Aj cj, vs[j]? = some (.slice Aj (fs.getD j []).length cj) ∧ Reads w w.heap.size 6 Aj (fs.getD j []).length (nds (fs.getD j [])) ∧ (fs.getD j []).length ≤ maxLen)
    (hfin : rangeOk n = true → (∀ f ∈ fs, fErr f = 0) → OkL (catKn fs fs.length ++ [lastN n fs]) ∧ (catKn fs fs.length ++ [lastN n fs]).length ≤ 401) :
    Calls Tryd.prog 47 #[nv n, .slice A fs.length c] w fun e w' => ∃ A' c', e = .returned (.slice A' (buildF n fs).length c') ∧ Reads w' w'.heap.size 6 A' (buildF n fs).length (nds (buildF n fs)) ∧ Below w.heap.size w w' := by
  have HSH := Lib.hid (fun W => pShape_any n.op W)
  have HIR : Hid (∀ W, Calls Tryd.prog 66 #[.agg #[.int .i64 (shN n.op), .int .i64 (shE n.op), .int .i64 (shG n.op), .int .i64 (shO n.op)], .agg #[.int .i64 n.op, .int .i64 n.i, .int .i64 n.e, .int .i64 n.g, .int .i64 n.x, .int .i64 n.y]] W fun e w' => e = .returned (.bool (rangeOk n)) ∧ Below W.heap.size W w') := Lib.hid (fun W => pInRange_any (shN n.op) (shE n.op) (shG n.op) (shO n.op) n W)
  unfold shV shC at HSH
  have HV := Lib.hid hv
  have HVS := Lib.hid hvs
  have HFIN := Lib.hid hfin
  have HLN := Lib.hid (lastN_eq n fs hx hy hlen)
  have HBF : Hid (buildF n fs = if rangeOk n = false then [] else if ∃ f ∈ fs, fErr f ≠ 0 then [] else if 200 < (canonF (catKn fs fs.length ++ [lastN n fs])).length then [] else canonF (catKn fs fs.length ++ [lastN n fs])) := Lib.hid (by
    unfold buildF catKn; rw [List.take_length])
  generalize buildF n fs = bf at *
  generalize lastN n fs = ln at *
  unfold nv
  clear hv hvs hfin hx hy
  generalize hq1 : shN n.op = q1 at *
  generalize hq2 : shE n.op = q2 at *
  generalize hq3 : shG n.op = q3 at *
  generalize hq4 : shO n.op = q4 at *
  generalize hq5 : known n.op = q5 at *
  clear hq1 hq2 hq3 hq4 hq5
  have hbx := fun (W : World) => Box.made W n 47
  go_enter Tryd.func47, Tryd.ntmps47
  go_wp2_with fail
  have HB0 : Hid (Below w.heap.size w (w.alloc (.cells #[.int .i64 n.op, .int .i64 n.i, .int .i64 n.e, .int .i64 n.g, .int .i64 n.x, .int .i64 n.y] 47))) := Lib.hid ((Below.refl _ w).alloc (Nat.le_refl _) _)
  have HBX0 := Lib.hid (hbx w)
  have hs0 : w.heap.size < (w.alloc (.cells #[.int .i64 n.op, .int .i64 n.i, .int .i64 n.e, .int .i64 n.g, .int .i64 n.x, .int .i64 n.y] 47)).heap.size := by simp
  clear hbx
  generalize w.alloc (.cells #[.int .i64 n.op, .int .i64 n.i, .int .i64 n.e, .int .i64 n.g, .int .i64 n.x, .int .i64 n.y] 47) = w0 at *
  refine (HSH.out _).mono ?_
  rintro e w1 ⟨rfl, hb1⟩
  have hs1 : w.heap.size < w1.heap.size := Nat.lt_of_lt_of_le hs0 hb1.size
  have HB1 := Lib.hid (((HB0.out).trans (hb1.mono (Nat.le_of_lt hs0))).alloc (Nat.le_of_lt hs1) (.cells #[.int .i64 q1, .int .i64 q2, .int .i64 q3, .int .i64 q4] 71))
  have hbx1 := (HBX0.out.keep (W' := w1) (hb1.block _ hs0)).keep (W' := w1.alloc (.cells #[.int .i64 q1, .int .i64 q2, .int .i64 q3, .int .i64 q4] 71)) (Below.heap_alloc w1 _ _ hs1)
  have HBX1 := Lib.hid hbx1
  have hs1a : w.heap.size < (w1.alloc (.cells #[.int .i64 q1, .int .i64 q2, .int .i64 q3, .int .i64 q4] 71)).heap.size := by simp; omega
  obtain ⟨b0, b1, b2, b3, b4, b5, _⟩ := hbx1
  clear hb1
  go_wp2_with fail
  clear b0 b1 b2 b3 b4 b5
  generalize w1.alloc (.cells #[.int .i64 q1, .int .i64 q2, .int .i64 q3, .int .i64 q4] 71) = w2 at *
  refine (HIR.out _).mono ?_
  rintro e w3 ⟨rfl, hb3⟩
  have HB3 := Lib.hid (HB1.out.trans (hb3.mono (Nat.le_of_lt hs1a)))
  have HBX3 := Lib.hid (HBX1.out.keep (W' := w3) (hb3.block _ hs1a))
  have hs3 : w.heap.size < w3.heap.size := Nat.lt_of_lt_of_le hs1a hb3.size
  clear hb3
  cases hro : rangeOk n with
  | false =>
    have HE : Hid (bf = []) := Lib.hid (by rw [HBF.out, hro]; rfl)
    have HE2 : bf = [] := HE.out
    subst HE2
    go_wp2
    go_ret
    exact ⟨none, 0, rfl, Reads.none_, HB3.out⟩
  | true =>
    have HRO := Lib.hid hro
    clear hro
    go_wp2
    have HEB := Lib.hid (EB.made w3 85)
    have HBE : Hid (Below w3.heap.size w3 (w3.alloc (.cells #[.int .i64 0, .int .i64 0] 85))) := Lib.hid ((Below.refl _ w3).alloc (Nat.le_refl _) _)
    have hsE : w3.heap.size < (w3.alloc (.cells #[.int .i64 0, .int .i64 0] 85)).heap.size := by simp
    generalize w3.alloc (.cells #[.int .i64 0, .int .i64 0] 85) = w4 at *
    have hwG : w.heap.size < w3.heap.size := hs3
    generalize hG : w3.heap.size = G at *
    have HG := Lib.hid hG
    clear hG
    go_loopw [7, 9, 10, 23] (fun u7 u9 u10 i wr => ∃ (k : Nat), k ≤ fs.length ∧ i = .int .i64 k ∧ Hid (wr.ownsRow (G + 1) 47 6 u7 (catKn fs k).length (nds (catKn fs k))) ∧ Hid (EB wr G (endK fs k 0) (endK fs k 1)) ∧ Hid (Below G w3 wr) ∧ Hid (∀ j, j < k → fErr (fs.getD j []) = 0) ∧ G < wr.heap.size ∧ (catKn fs k).length ≤ 200 * k) (fun _ _ _ i _ => fs.length - (intOf i).toNat)
    case atStart => exact ⟨0, Nat.zero_le _, rfl, Lib.hid (World.ownsRow_nil _ _ _ _), HEB, HBE, Lib.hid (fun j hj => absurd hj (by omega)), hsE, by simp [catKn, catS]⟩
    case round =>
      obtain ⟨k, hk, rfl, HO, HEK, HB, HFE, hGr, hcl⟩ := hrel
      by_cases hlt : k < fs.length
      · have HBW := Lib.hid (HB3.out.trans (HB.out.mono (Nat.le_of_lt hwG)))
        obtain ⟨Aj, cj, hvj, hRj, hmj⟩ := HVS.out k hlt
        obtain ⟨ad, rfl, hadb, hadc⟩ := HV.out.2 (by omega)
        have hcj : wr.cell? (ad.add k) = some (.slice Aj (fs.getD k []).length cj) := (HBW.out.cell (p := ad.add k) (by rw [block_of_add]; exact hadb)).trans (hadc k _ hvj)
        have HRj := Lib.hid (hRj.below HBW.out)
        have HVJ := Lib.hid (pValid_any (fs.getD k []) Aj (fs.getD k []).length cj wr (HRj.out.more HBW.out.size) hmj)
        have hk2 : (k : Int) < 2 := by omega
        have hk2n : k < 2 := by omega
        have HNE := Lib.hid (endK_succ fs k)
        have HCK := Lib.hid (catK_succ fs k hlt)
        clear hadc hvj hRj
        by_cases hz : fErr (fs.getD k []) = 0
        · have hf200 := (fErr_ok hz).2.1
          have HAP : Hid (∀ W, Below wr.heap.size wr W → Calls Tryd.prog 72 #[u7, .slice Aj (fs.getD k []).length cj] W fun e w' => ∃ v', e = .returned v' ∧ w'.ownsRow (G + 1) 47 6 v' (catKn fs (k + 1)).length (nds (catKn fs (k + 1))) ∧ Below (G + 1) W w') := Lib.hid (fun W hW => by
            rw [HCK.out]
            exact pAppS_any (catKn fs k) (fs.getD k []) Aj (fs.getD k []).length cj (G + 1) u7 W (fErr_ops hz) (by omega) (by omega) (by have := hW.size; omega) ((HRj.out.below (hW.mono (by omega))).more (by omega)) (own_keep1 HO.out (fun g hg => hW.block g (HO.out.lt g hg).2)))
          have HFE2 : Hid (∀ j, j < k + 1 → fErr (fs.getD j []) = 0) := Lib.hid (fun j hj => by
            by_cases e : j = k
            · subst e; exact hz
            · exact HFE.out j (by omega))
          have hcl2 : (catKn fs (k + 1)).length ≤ 200 * (k + 1) := by rw [HCK.out, List.length_append, List.length_map]; omega
          rw [hz] at HVJ
          have HN0 := Lib.hid (HNE.out 0)
          have HN1 := Lib.hid (HNE.out 1)
          clear hz HNE
          generalize fs.getD k [] = fj at *
          go_wp2_with fail
          refine (HVJ.out).mono ?_
          rintro e w5 ⟨rfl, hb5⟩
          have HB5 := Lib.hid hb5
          clear hb5 hcj
          go_wp2_with fail
          refine (HAP.out _ HB5.out).mono ?_
          rintro e w6 ⟨v', rfl, hO6, hb6⟩
          obtain ⟨A6, c6, rfl⟩ := own_sl hO6
          have hs5 := HB5.out.size
          have hs6 := hb6.size
          have HO6 := Lib.hid hO6
          have HE6 := Lib.hid ((HEK.out.keep (W' := w5) (HB5.out.block G hGr)).keep (W' := w6) (hb6.block G (by omega)))
          have HB6 : Hid (Below G w3 w6) := Lib.hid ((HB.out.trans (HB5.out.mono (by omega))).trans (hb6.mono (by omega)))
          have HES := Lib.hid (HE6.out.set hk2n (((catKn fs (k + 1)).length : Int) - 1))
          obtain ⟨e0, e1, ef⟩ := HE6.out
          have hck : ∃ z, w6.cell? ⟨G, k, none⟩ = some (.int .i64 z) := by
            have : k = 0 ∨ k = 1 := by omega
            rcases this with rfl | rfl
            · exact ⟨_, e0⟩
            · exact ⟨_, e1⟩
          obtain ⟨zk, hck⟩ := hck
          have hfk := ef k
          clear hO6 hb6 e0 e1 ef
          generalize hcc : (catKn fs (k + 1)).length = m6 at *
          have hw1 : wrap64 ((m6 : Int) - 1) = (m6 : Int) - 1 := by unfold wrap64; omega
          have hw2 : IntKind.i64.wrap ((m6 : Int) - 1) = (m6 : Int) - 1 := by rw [IntKind.wrap_i64]; omega
          go_wp2
          go_roundw
          case rel =>
            refine ⟨k + 1, by omega, by go_num, Lib.hid ?_, Lib.hid ?_, Lib.hid (HB6.out.setCell (by show G ≤ G; omega) _), HFE2, by simp; omega, by omega⟩
            · rw [hcc]
              exact ownsRow_setCell_below HO6.out (by show G < G + 1; omega) _
            · rw [HN0.out, HN1.out]
              exact HES.out
          case measure => simp [intOf]; omega
        · have HE : Hid (bf = []) := Lib.hid (by
            rw [HBF.out, HRO.out, if_neg (by decide), if_pos ⟨_, show fs.getD k [] ∈ fs from by rw [show fs.getD k [] = fs[k] from by simp [hlt]]; exact List.getElem_mem hlt, hz⟩])
          have HE2 : bf = [] := HE.out
          have hzb : (fErr (fs.getD k []) == 0) = false := by simpa using hz
          rw [hzb] at HVJ
          subst HE2
          clear hz hzb HE HRj HCK
          generalize fs.getD k [] = fj at *
          go_wp2_with fail
          refine (HVJ.out).mono ?_
          rintro e w5 ⟨rfl, hb5⟩
          have HB5 := Lib.hid (HBW.out.trans (hb5.mono HBW.out.size))
          clear hb5
          go_wp2
          go_ret
          exact ⟨none, 0, rfl, Reads.none_, HB5.out⟩
      · have hkf : k = fs.length := by omega
        have hBX := HBX3.out.keep (W' := wr) (HB.out.block _ hwG)
        have HBXr := Lib.hid hBX
        obtain ⟨b0, b1, b2, b3, b4, b5, bf'⟩ := hBX
        have bf4 := bf' 4
        have bf5 := bf' 5
        obtain ⟨e0, e1, ef⟩ := HEK.out
        have hngw : G ≠ w.heap.size := by omega
        have hngw2 : w.heap.size ≠ G := by omega
        clear bf' ef
        go_wp2
        have HALL : Hid (∀ f ∈ fs, fErr f = 0) := Lib.hid (fun f hf => by
          obtain ⟨j, hj, hj2⟩ := List.getElem_of_mem hf
          have := HFE.out j (by omega)
          rw [show fs.getD j [] = f from by simp [hj, hj2]] at this
          exact this)
        subst hkf
        obtain ⟨hok, h401⟩ := HFIN.out HRO.out HALL.out
        have HOK := Lib.hid hok
        have hln := HLN.out
        have HBF2 : Hid (bf = if 200 < (canonF (catKn fs fs.length ++ [ln])).length then [] else canonF (catKn fs fs.length ++ [ln])) := Lib.hid (by
          rw [HBF.out, HRO.out, if_neg (by decide), if_neg (fun ⟨f, hf, hz⟩ => hz (HALL.out f hf))])
        clear hok
        go_region
        have HBXz := Lib.hid ((HBXr.out.setX (endK fs fs.length 0)).setY (endK fs fs.length 1))
        have HOz : Hid (((wr.setCell ⟨w.heap.size, 4, none⟩ (.int .i64 (endK fs fs.length 0))).setCell ⟨w.heap.size, 5, none⟩ (.int .i64 (endK fs fs.length 1))).drew.ownsRow (G + 1) 47 6 u7 (catKn fs fs.length).length (nds (catKn fs fs.length))) :=
          Lib.hid (ownsRow_setCell_below (ownsRow_setCell_below HO.out (by show w.heap.size < G + 1; omega) _) (by show w.heap.size < G + 1; omega) _)
        have HBz : Hid (Below w.heap.size w ((wr.setCell ⟨w.heap.size, 4, none⟩ (.int .i64 (endK fs fs.length 0))).setCell ⟨w.heap.size, 5, none⟩ (.int .i64 (endK fs fs.length 1))).drew) :=
          Lib.hid (((HB3.out.trans (HB.out.mono (Nat.le_of_lt hwG))).setCell (by show w.heap.size ≤ w.heap.size; omega) _).setCell (by show w.heap.size ≤ w.heap.size; omega) _).drew
        have hsz : G < ((wr.setCell ⟨w.heap.size, 4, none⟩ (.int .i64 (endK fs fs.length 0))).setCell ⟨w.heap.size, 5, none⟩ (.int .i64 (endK fs fs.length 1))).drew.heap.size := by show G < ((wr.setCell _ _).setCell _ _).heap.size; simpa using hGr
        have hbz2 : Box ((wr.setCell ⟨w.heap.size, 4, none⟩ (.int .i64 (endK fs fs.length 0))).setCell ⟨w.heap.size, 5, none⟩ (.int .i64 (endK fs fs.length 1))).drew w.heap.size { n with x := endK fs fs.length 0, y := endK fs fs.length 1 } := HBXz.out
        rw [← hln] at hbz2
        obtain ⟨y0, y1, y2, y3, y4, y5, _⟩ := hbz2
        have HLX := Lib.hid hln
        clear hln b0 b1 b2 b3 b4 b5 bf4 bf5 e0 e1 HBXz hngw hngw2
        generalize ((wr.setCell ⟨w.heap.size, 4, none⟩ (.int .i64 (endK fs fs.length 0))).setCell ⟨w.heap.size, 5, none⟩ (.int .i64 (endK fs fs.length 1))).drew = wz at *
        generalize hcat : catKn fs fs.length = L at *
        have hL401 : L.length ≤ 400 := by have := h401; rw [List.length_append] at this; simp at this; omega
        go_wp2_with (at_builtin; refine wp_appN ln _ rfl _ _ rfl (G + 1) _ _ rfl (HOz.out.alloc _) rfl ?k1 ?k2 ?k3 ?_)
        case k1 =>
          intro j u hj
          have hh := heap_alloc_new wz (.cells #[.int .i64 ln.op, .int .i64 ln.i, .int .i64 ln.e, .int .i64 ln.g, .int .i64 ln.x, .int .i64 ln.y] 47)
          have := Lib.cell_of_heap hh j
          rw [this, ← hj]
          simp [ndC]
        case k2 => omega
        case k3 => simp; omega
        · intro v7 w7 hown7 hgrow
          obtain ⟨A7, c7, rfl⟩ := own_sl hown7
          have HR7 := Lib.hid (Reads.of_own hown7)
          have HB7 : Hid (Below w.heap.size w w7) := Lib.hid ((HBz.out.alloc (by have := HBz.out.size; omega) _).grown hgrow (by have := HBz.out.size; simp; omega) (fun g hg => by have := (HOz.out.lt g hg).1; omega))
          have HCN := Lib.hid (pCanon_any (L ++ [ln]) HOK.out A7 (L.length + 1) c7 w7 HR7.out (by omega))
          clear hown7 hgrow y0 y1 y2 y3 y4 y5
          generalize canonF (L ++ [ln]) = q at *
          go_wp2_with fail
          refine (HCN.out).mono ?_
          rintro e w8 ⟨A8, c8, rfl, hR8, hb8⟩
          have HR8 := Lib.hid hR8
          have HB8 := Lib.hid (HB7.out.trans (hb8.mono HB7.out.size))
          clear hR8 hb8
          by_cases h2 : 200 < q.length
          · have hd : decide (200 < (q.length : Int)) = true := decide_eq_true (by omega)
            have hd2 : decide (200 < q.length) = true := decide_eq_true h2
            have HE : Hid (bf = []) := Lib.hid (by rw [HBF2.out, if_pos h2])
            have HE2 : bf = [] := HE.out
            subst HE2
            clear h2
            go_wp2
            go_ret
            exact ⟨none, 0, rfl, Reads.none_, HB8.out⟩
          · have hd : decide (200 < (q.length : Int)) = false := decide_eq_false (by omega)
            have hd2 : decide (200 < q.length) = false := decide_eq_false h2
            have HE : Hid (bf = q) := Lib.hid (by rw [HBF2.out, if_neg h2])
            have HE2 : bf = q := HE.out
            subst HE2
            clear h2
            go_wp2
            go_ret
            exact ⟨A8, c8, rfl, HR8.out, HB8.out⟩
end Go.Proofs.YthhkeobjjeldhaaDoor
/- Layer 5: the constructors of the program. -/
namespace Go.Proofs.YthhkeobjjeldhaaDoor
open Go.RowKit Go.Proofs.Ws Go.Maps
theorem shiftN_ops {s k : Nat} {n : Nd} (h : opsOk n k) : opsOk (shiftN s n) (s + k) := by
  obtain ⟨h1, h2⟩ := h
  unfold opsOk shiftN
  dsimp only
  constructor
  · by_cases hx : usesX n.op = true
    · rw [if_pos hx] at h1 ⊢
      rw [if_pos hx]; omega
    · rw [if_neg hx] at h1 ⊢
      rw [if_neg hx]; exact h1
  · by_cases hy : usesY n.op = true
    · rw [if_pos hy] at h2 ⊢
      rw [if_pos hy]; omega
    · rw [if_neg hy] at h2 ⊢
      rw [if_neg hy]; exact h2
theorem catK_ok (fs : List (List Nd)) (h : ∀ f ∈ fs, fErr f = 0) : ∀ k, k ≤ fs.length → opsL (catKn fs k) ∧ (∀ n ∈ catKn fs k, fldOk n) ∧ (catKn fs k).length ≤ 200 * k := by
  intro k
  induction k with
  | zero => intro _; exact ⟨fun i hi => absurd hi (by simp [catKn, catS]), fun n hn => absurd hn (by simp [catKn, catS]), by simp [catKn, catS]⟩
  | succ k ih =>
    intro hk
    obtain ⟨i1, i2, i3⟩ := ih (by omega)
    have hz : fErr (fs.getD k []) = 0 := by
      rw [show fs.getD k [] = fs[k] from by simp [show k < fs.length by omega]]
      exact h _ (List.getElem_mem _)
    rw [catK_succ fs k (by omega)]
    have h2 := (fErr_ok hz).2.1
    have hf := fErr_fld hz
    have ho := fErr_ops hz
    generalize fs.getD k [] = f at *
    generalize catKn fs k = l at *
    refine ⟨fun i hi => ?_, fun n hn => ?_, by rw [List.length_append, List.length_map]; omega⟩
    · rw [List.length_append, List.length_map] at hi
      by_cases e : i < l.length
      · rw [List.getD_eq_getElem?_getD, List.getElem?_append_left e, ← List.getD_eq_getElem?_getD]
        exact i1 i e
      · have hi2 : i - l.length < f.length := by omega
        have e2 : (l ++ f.map (shiftN l.length)).getD i nd0 = shiftN l.length (f.getD (i - l.length) nd0) := by
          rw [List.getD_eq_getElem?_getD, List.getElem?_append_right (by omega), List.getElem?_map]
          simp [hi2]
        rw [e2]
        have := shiftN_ops (s := l.length) (ho (i - l.length) hi2)
        rw [show l.length + (i - l.length) = i from by omega] at this
        exact this
    · rcases List.mem_append.1 hn with hn | hn
      · exact i2 n hn
      · obtain ⟨m, hm, rfl⟩ := List.mem_map.1 hn
        exact hf m hm
theorem snoc_ok {l : List Nd} {n : Nd} (h1 : opsL l) (h2 : ∀ m ∈ l, fldOk m) (hn : opsOk n l.length) (hf : fldOk n) : OkL (l ++ [n]) := by
  have hlen : (l ++ [n]).length = l.length + 1 := by simp
  have key : ∀ i, i < (l ++ [n]).length → opsOk ((l ++ [n]).getD i nd0) i ∧ fldOk ((l ++ [n]).getD i nd0) := by
    intro i hi
    by_cases e : i < l.length
    · rw [List.getD_eq_getElem?_getD, List.getElem?_append_left e, ← List.getD_eq_getElem?_getD]
      exact ⟨h1 i e, h2 _ (getD_mem e)⟩
    · have e2 : i = l.length := by omega
      subst e2
      rw [getD_some (n := n) (by simp)]
      exact ⟨hn, hf⟩
  exact ⟨by simp, fun i hi => (key i hi).1, fun i hi => NdR_of ((nodeErr_iff _ i).2 (key i hi))⟩
theorem catK_1 (f : List Nd) : (catKn [f] 1).length = f.length := by simp [catKn, catS]
theorem catK_2 (f g : List Nd) : (catKn [f, g] 2).length = f.length + g.length := by simp [catKn, catS]
theorem fin_0 (n : Nd) (hk : known n.op = true) (hz : (n.op = 3 ∨ hasAgent n.op = true ∨ n.op = 17 ∨ n.i = 0) ∧ (n.op = 17 ∨ n.e = 0) ∧ (hasGroup n.op = true ∨ n.g = 0)) (hx : n.x = 0) (hy : n.y = 0) (hux : usesX n.op = false) (huy : usesY n.op = false) :
    rangeOk n = true → (∀ f ∈ ([] : List (List Nd)), fErr f = 0) → OkL (catKn [] ([] : List (List Nd)).length ++ [lastN n []]) ∧ (catKn [] ([] : List (List Nd)).length ++ [lastN n []]).length ≤ 401 := by
  intro hr h
  have hopn : opsOk n 0 := ⟨by rw [if_neg (by rw [hux]; decide)]; exact hx, by rw [if_neg (by rw [huy]; decide)]; exact hy⟩
  exact ⟨snoc_ok (l := []) (fun i hi => absurd hi (by simp)) (fun m hm => absurd hm (by simp)) hopn ⟨hk, hz, hr⟩, by simp [catKn, catS]⟩
theorem fin_1 (n : Nd) (f : List Nd) (hk : known n.op = true) (hz : (n.op = 3 ∨ hasAgent n.op = true ∨ n.op = 17 ∨ n.i = 0) ∧ (n.op = 17 ∨ n.e = 0) ∧ (hasGroup n.op = true ∨ n.g = 0)) (hy : n.y = 0) (hux : usesX n.op = true) (huy : usesY n.op = false) :
    rangeOk n = true → (∀ g ∈ [f], fErr g = 0) → OkL (catKn [f] [f].length ++ [lastN n [f]]) ∧ (catKn [f] [f].length ++ [lastN n [f]]).length ≤ 401 := by
  intro hr h
  have hf := h f (by simp)
  have hne : f.length ≠ 0 := by simpa using (fErr_ok hf).1
  obtain ⟨h1, h2, h3⟩ := catK_ok [f] h 1 (by simp)
  have hl := catK_1 f
  refine ⟨snoc_ok h1 h2 ⟨?_, ?_⟩ ⟨hk, hz, hr⟩, by rw [List.length_append]; show (catKn [f] 1).length + 1 ≤ 401; omega⟩
  · show if usesX n.op = true then 0 ≤ (f.length : Int) - 1 ∧ (f.length : Int) - 1 < ((catKn [f] 1).length : Int) else _
    rw [if_pos hux]; omega
  · show if usesY n.op = true then _ else n.y = 0
    rw [if_neg (by rw [huy]; decide)]; exact hy
theorem fin_2 (n : Nd) (f g : List Nd) (hk : known n.op = true) (hz : (n.op = 3 ∨ hasAgent n.op = true ∨ n.op = 17 ∨ n.i = 0) ∧ (n.op = 17 ∨ n.e = 0) ∧ (hasGroup n.op = true ∨ n.g = 0)) (hux : usesX n.op = true) (huy : usesY n.op = true) :
    rangeOk n = true → (∀ h ∈ [f, g], fErr h = 0) → OkL (catKn [f, g] [f, g].length ++ [lastN n [f, g]]) ∧ (catKn [f, g] [f, g].length ++ [lastN n [f, g]]).length ≤ 401 := by
  intro hr h
  have hf := h f (by simp)
  have hg := h g (by simp)
  have hne : f.length ≠ 0 := by simpa using (fErr_ok hf).1
  have hne2 : g.length ≠ 0 := by simpa using (fErr_ok hg).1
  obtain ⟨h1, h2, h3⟩ := catK_ok [f, g] h 2 (by simp)
  have hl := catK_2 f g
  refine ⟨snoc_ok h1 h2 ⟨?_, ?_⟩ ⟨hk, hz, hr⟩, by rw [List.length_append]; show (catKn [f, g] 2).length + 1 ≤ 401; omega⟩
  · show if usesX n.op = true then 0 ≤ (f.length : Int) - 1 ∧ (f.length : Int) - 1 < ((catKn [f, g] 2).length : Int) else _
    rw [if_pos hux]; omega
  · show if usesY n.op = true then 0 ≤ (f.length + g.length : Int) - 1 ∧ (f.length + g.length : Int) - 1 < ((catKn [f, g] 2).length : Int) else _
    rw [if_pos huy]; omega
theorem reads_sl1 (W : World) (A : Option Addr) (n c : Nat) : Reads (W.alloc (.cells #[.slice A n c] 33)) (W.alloc (.cells #[.slice A n c] 33)).heap.size 1 (some ⟨W.heap.size, 0, none⟩) 1 [.slice A n c] := by
  refine ⟨rfl, fun _ => ⟨_, rfl, by simp, fun j u hj => ?_⟩⟩
  have hh := heap_alloc_new W (.cells #[.slice A n c] 33)
  rw [addr_zero, Lib.cell_of_heap hh, ← hj]
  simp
theorem reads_sl2 (W : World) (A A2 : Option Addr) (n c n2 c2 : Nat) : Reads (W.alloc (.cells #[.slice A n c, .slice A2 n2 c2] 33)) (W.alloc (.cells #[.slice A n c, .slice A2 n2 c2] 33)).heap.size 1 (some ⟨W.heap.size, 0, none⟩) 2 [.slice A n c, .slice A2 n2 c2] := by
  refine ⟨rfl, fun _ => ⟨_, rfl, by simp, fun j u hj => ?_⟩⟩
  have hh := heap_alloc_new W (.cells #[.slice A n c, .slice A2 n2 c2] 33)
  rw [addr_zero, Lib.cell_of_heap hh, ← hj]
  simp
/-- build at one operand, behind the making of the operands' slice -/
theorem build_1 (n : Nd) (f : List Nd) (A : Option Addr) (c : Nat) (w : World) (hx : n.x = 0) (hy : n.y = 0) (hR : Reads w w.heap.size 6 A f.length (nds f)) (hm : f.length ≤ maxLen)
    (hfin : rangeOk n = true → (∀ g ∈ [f], fErr g = 0) → OkL (catKn [f] [f].length ++ [lastN n [f]]) ∧ (catKn [f] [f].length ++ [lastN n [f]]).length ≤ 401) :
    Calls Tryd.prog 47 #[nv n, .slice (some ⟨w.heap.size, 0, none⟩) 1 1] (w.alloc (.cells #[.slice A f.length c] 33)) fun e w' => ∃ A' c', e = .returned (.slice A' (buildF n [f]).length c') ∧ Reads w' w'.heap.size 6 A' (buildF n [f]).length (nds (buildF n [f])) ∧ Below w.heap.size w w' := by
  have hb : Below w.heap.size w (w.alloc (.cells #[.slice A f.length c] 33)) := (Below.refl _ w).alloc (Nat.le_refl _) _
  refine (pBuild_any n [f] [.slice A f.length c] (some ⟨w.heap.size, 0, none⟩) 1 _ hx hy (by simp) (reads_sl1 w A f.length c) ?_ hfin).mono ?_
  · intro j hj
    have hj0 : j = 0 := by simpa using hj
    subst hj0
    exact ⟨A, c, rfl, (hR.below hb).more hb.size, hm⟩
  · rintro e w' ⟨A', c', rfl, h1, h2⟩
    exact ⟨A', c', rfl, h1, hb.trans (h2.mono hb.size)⟩
theorem build_2 (n : Nd) (f g : List Nd) (A A2 : Option Addr) (c c2 : Nat) (w : World) (hx : n.x = 0) (hy : n.y = 0) (hR : Reads w w.heap.size 6 A f.length (nds f)) (hR2 : Reads w w.heap.size 6 A2 g.length (nds g)) (hm : f.length ≤ maxLen) (hm2 : g.length ≤ maxLen)
    (hfin : rangeOk n = true → (∀ h ∈ [f, g], fErr h = 0) → OkL (catKn [f, g] [f, g].length ++ [lastN n [f, g]]) ∧ (catKn [f, g] [f, g].length ++ [lastN n [f, g]]).length ≤ 401) :
    Calls Tryd.prog 47 #[nv n, .slice (some ⟨w.heap.size, 0, none⟩) 2 2] (w.alloc (.cells #[.slice A f.length c, .slice A2 g.length c2] 33)) fun e w' => ∃ A' c', e = .returned (.slice A' (buildF n [f, g]).length c') ∧ Reads w' w'.heap.size 6 A' (buildF n [f, g]).length (nds (buildF n [f, g])) ∧ Below w.heap.size w w' := by
  have hb : Below w.heap.size w (w.alloc (.cells #[.slice A f.length c, .slice A2 g.length c2] 33)) := (Below.refl _ w).alloc (Nat.le_refl _) _
  refine (pBuild_any n [f, g] [.slice A f.length c, .slice A2 g.length c2] (some ⟨w.heap.size, 0, none⟩) 2 _ hx hy (by simp) (reads_sl2 w A A2 f.length c g.length c2) ?_ hfin).mono ?_
  · intro j hj
    have hj2 : j = 0 ∨ j = 1 := by simp at hj; omega
    rcases hj2 with rfl | rfl
    · exact ⟨A, c, rfl, (hR.below hb).more hb.size, hm⟩
    · exact ⟨A2, c2, rfl, (hR2.below hb).more hb.size, hm2⟩
  · rintro e w' ⟨A', c', rfl, h1, h2⟩
    exact ⟨A', c', rfl, h1, hb.trans (h2.mono hb.size)⟩
set_option maxRecDepth 100000 in
theorem pNot_any (f : List Nd) (Af : Option Addr) (nf cf : Nat) (w : World) (hRf : Reads w w.heap.size 6 Af nf (nds f)) (hmf : nf ≤ maxLen) :
    Calls Tryd.prog 29 #[.slice Af nf cf] w fun e w' => ∃ A' c', e = .returned (.slice A' (buildF ⟨4, 0, 0, 0, 0, 0⟩ [f]).length c') ∧ Reads w' w'.heap.size 6 A' (buildF ⟨4, 0, 0, 0, 0, 0⟩ [f]).length (nds (buildF ⟨4, 0, 0, 0, 0, 0⟩ [f])) ∧ Below w.heap.size w w' := by
  have hlf := hRf.nd_len
  subst hlf
  have HC := Lib.hid (build_1 ⟨4, 0, 0, 0, 0, 0⟩ f Af cf w rfl rfl hRf hmf (fin_1 ⟨4, 0, 0, 0, 0, 0⟩ f rfl ⟨Or.inr (Or.inr (Or.inr rfl)), Or.inr rfl, Or.inr rfl⟩ rfl rfl rfl))
  unfold nv at HC
  generalize buildF ⟨4, 0, 0, 0, 0, 0⟩ [f] = q at *
  dsimp only at HC
  go_enter Tryd.func29, Tryd.ntmps29
  go_wp2_with fail
  refine (HC.out).mono ?_
  rintro e w2 ⟨A', c', rfl, hR2, hb2⟩
  have HR2 := Lib.hid hR2
  have HB2 := Lib.hid hb2
  clear hR2 hb2
  go_wp2
  go_ret
  exact ⟨A', c', rfl, HR2.out, HB2.out⟩
set_option maxRecDepth 100000 in
theorem pAnd_any (f : List Nd) (Af : Option Addr) (nf cf : Nat) (h : List Nd) (Ah : Option Addr) (nh ch : Nat) (w : World) (hRf : Reads w w.heap.size 6 Af nf (nds f)) (hmf : nf ≤ maxLen) (hRh : Reads w w.heap.size 6 Ah nh (nds h)) (hmh : nh ≤ maxLen) :
    Calls Tryd.prog 22 #[.slice Af nf cf, .slice Ah nh ch] w fun e w' => ∃ A' c', e = .returned (.slice A' (buildF ⟨5, 0, 0, 0, 0, 0⟩ [f, h]).length c') ∧ Reads w' w'.heap.size 6 A' (buildF ⟨5, 0, 0, 0, 0, 0⟩ [f, h]).length (nds (buildF ⟨5, 0, 0, 0, 0, 0⟩ [f, h])) ∧ Below w.heap.size w w' := by
  have hlf := hRf.nd_len
  subst hlf
  have hlh := hRh.nd_len
  subst hlh
  have HC := Lib.hid (build_2 ⟨5, 0, 0, 0, 0, 0⟩ f h Af Ah cf ch w rfl rfl hRf hRh hmf hmh (fin_2 ⟨5, 0, 0, 0, 0, 0⟩ f h rfl ⟨Or.inr (Or.inr (Or.inr rfl)), Or.inr rfl, Or.inr rfl⟩ rfl rfl))
  unfold nv at HC
  generalize buildF ⟨5, 0, 0, 0, 0, 0⟩ [f, h] = q at *
  dsimp only at HC
  go_enter Tryd.func22, Tryd.ntmps22
  go_wp2_with fail
  refine (HC.out).mono ?_
  rintro e w2 ⟨A', c', rfl, hR2, hb2⟩
  have HR2 := Lib.hid hR2
  have HB2 := Lib.hid hb2
  clear hR2 hb2
  go_wp2
  go_ret
  exact ⟨A', c', rfl, HR2.out, HB2.out⟩
set_option maxRecDepth 100000 in
theorem pOr_any (f : List Nd) (Af : Option Addr) (nf cf : Nat) (h : List Nd) (Ah : Option Addr) (nh ch : Nat) (w : World) (hRf : Reads w w.heap.size 6 Af nf (nds f)) (hmf : nf ≤ maxLen) (hRh : Reads w w.heap.size 6 Ah nh (nds h)) (hmh : nh ≤ maxLen) :
    Calls Tryd.prog 23 #[.slice Af nf cf, .slice Ah nh ch] w fun e w' => ∃ A' c', e = .returned (.slice A' (buildF ⟨6, 0, 0, 0, 0, 0⟩ [f, h]).length c') ∧ Reads w' w'.heap.size 6 A' (buildF ⟨6, 0, 0, 0, 0, 0⟩ [f, h]).length (nds (buildF ⟨6, 0, 0, 0, 0, 0⟩ [f, h])) ∧ Below w.heap.size w w' := by
  have hlf := hRf.nd_len
  subst hlf
  have hlh := hRh.nd_len
  subst hlh
  have HC := Lib.hid (build_2 ⟨6, 0, 0, 0, 0, 0⟩ f h Af Ah cf ch w rfl rfl hRf hRh hmf hmh (fin_2 ⟨6, 0, 0, 0, 0, 0⟩ f h rfl ⟨Or.inr (Or.inr (Or.inr rfl)), Or.inr rfl, Or.inr rfl⟩ rfl rfl))
  unfold nv at HC
  generalize buildF ⟨6, 0, 0, 0, 0, 0⟩ [f, h] = q at *
  dsimp only at HC
  go_enter Tryd.func23, Tryd.ntmps23
  go_wp2_with fail
  refine (HC.out).mono ?_
  rintro e w2 ⟨A', c', rfl, hR2, hb2⟩
  have HR2 := Lib.hid hR2
  have HB2 := Lib.hid hb2
  clear hR2 hb2
  go_wp2
  go_ret
  exact ⟨A', c', rfl, HR2.out, HB2.out⟩
set_option maxRecDepth 100000 in
theorem pImp_any (f : List Nd) (Af : Option Addr) (nf cf : Nat) (h : List Nd) (Ah : Option Addr) (nh ch : Nat) (w : World) (hRf : Reads w w.heap.size 6 Af nf (nds f)) (hmf : nf ≤ maxLen) (hRh : Reads w w.heap.size 6 Ah nh (nds h)) (hmh : nh ≤ maxLen) :
    Calls Tryd.prog 24 #[.slice Af nf cf, .slice Ah nh ch] w fun e w' => ∃ A' c', e = .returned (.slice A' (buildF ⟨7, 0, 0, 0, 0, 0⟩ [f, h]).length c') ∧ Reads w' w'.heap.size 6 A' (buildF ⟨7, 0, 0, 0, 0, 0⟩ [f, h]).length (nds (buildF ⟨7, 0, 0, 0, 0, 0⟩ [f, h])) ∧ Below w.heap.size w w' := by
  have hlf := hRf.nd_len
  subst hlf
  have hlh := hRh.nd_len
  subst hlh
  have HC := Lib.hid (build_2 ⟨7, 0, 0, 0, 0, 0⟩ f h Af Ah cf ch w rfl rfl hRf hRh hmf hmh (fin_2 ⟨7, 0, 0, 0, 0, 0⟩ f h rfl ⟨Or.inr (Or.inr (Or.inr rfl)), Or.inr rfl, Or.inr rfl⟩ rfl rfl))
  unfold nv at HC
  generalize buildF ⟨7, 0, 0, 0, 0, 0⟩ [f, h] = q at *
  dsimp only at HC
  go_enter Tryd.func24, Tryd.ntmps24
  go_wp2_with fail
  refine (HC.out).mono ?_
  rintro e w2 ⟨A', c', rfl, hR2, hb2⟩
  have HR2 := Lib.hid hR2
  have HB2 := Lib.hid hb2
  clear hR2 hb2
  go_wp2
  go_ret
  exact ⟨A', c', rfl, HR2.out, HB2.out⟩
set_option maxRecDepth 100000 in
theorem pIff_any (f : List Nd) (Af : Option Addr) (nf cf : Nat) (h : List Nd) (Ah : Option Addr) (nh ch : Nat) (w : World) (hRf : Reads w w.heap.size 6 Af nf (nds f)) (hmf : nf ≤ maxLen) (hRh : Reads w w.heap.size 6 Ah nh (nds h)) (hmh : nh ≤ maxLen) :
    Calls Tryd.prog 25 #[.slice Af nf cf, .slice Ah nh ch] w fun e w' => ∃ A' c', e = .returned (.slice A' (buildF ⟨8, 0, 0, 0, 0, 0⟩ [f, h]).length c') ∧ Reads w' w'.heap.size 6 A' (buildF ⟨8, 0, 0, 0, 0, 0⟩ [f, h]).length (nds (buildF ⟨8, 0, 0, 0, 0, 0⟩ [f, h])) ∧ Below w.heap.size w w' := by
  have hlf := hRf.nd_len
  subst hlf
  have hlh := hRh.nd_len
  subst hlh
  have HC := Lib.hid (build_2 ⟨8, 0, 0, 0, 0, 0⟩ f h Af Ah cf ch w rfl rfl hRf hRh hmf hmh (fin_2 ⟨8, 0, 0, 0, 0, 0⟩ f h rfl ⟨Or.inr (Or.inr (Or.inr rfl)), Or.inr rfl, Or.inr rfl⟩ rfl rfl))
  unfold nv at HC
  generalize buildF ⟨8, 0, 0, 0, 0, 0⟩ [f, h] = q at *
  dsimp only at HC
  go_enter Tryd.func25, Tryd.ntmps25
  go_wp2_with fail
  refine (HC.out).mono ?_
  rintro e w2 ⟨A', c', rfl, hR2, hb2⟩
  have HR2 := Lib.hid hR2
  have HB2 := Lib.hid hb2
  clear hR2 hb2
  go_wp2
  go_ret
  exact ⟨A', c', rfl, HR2.out, HB2.out⟩
set_option maxRecDepth 100000 in
theorem pKnow_any (zi : Int) (f : List Nd) (Af : Option Addr) (nf cf : Nat) (w : World) (hRf : Reads w w.heap.size 6 Af nf (nds f)) (hmf : nf ≤ maxLen) :
    Calls Tryd.prog 30 #[.int .i64 zi, .slice Af nf cf] w fun e w' => ∃ A' c', e = .returned (.slice A' (buildF ⟨9, zi, 0, 0, 0, 0⟩ [f]).length c') ∧ Reads w' w'.heap.size 6 A' (buildF ⟨9, zi, 0, 0, 0, 0⟩ [f]).length (nds (buildF ⟨9, zi, 0, 0, 0, 0⟩ [f])) ∧ Below w.heap.size w w' := by
  have hlf := hRf.nd_len
  subst hlf
  have HC := Lib.hid (build_1 ⟨9, zi, 0, 0, 0, 0⟩ f Af cf w rfl rfl hRf hmf (fin_1 ⟨9, zi, 0, 0, 0, 0⟩ f rfl ⟨Or.inr (Or.inl rfl), Or.inr rfl, Or.inr rfl⟩ rfl rfl rfl))
  unfold nv at HC
  generalize buildF ⟨9, zi, 0, 0, 0, 0⟩ [f] = q at *
  dsimp only at HC
  go_enter Tryd.func30, Tryd.ntmps30
  go_wp2_with fail
  refine (HC.out).mono ?_
  rintro e w2 ⟨A', c', rfl, hR2, hb2⟩
  have HR2 := Lib.hid hR2
  have HB2 := Lib.hid hb2
  clear hR2 hb2
  go_wp2
  go_ret
  exact ⟨A', c', rfl, HR2.out, HB2.out⟩
set_option maxRecDepth 100000 in
theorem pPoss_any (zi : Int) (f : List Nd) (Af : Option Addr) (nf cf : Nat) (w : World) (hRf : Reads w w.heap.size 6 Af nf (nds f)) (hmf : nf ≤ maxLen) :
    Calls Tryd.prog 31 #[.int .i64 zi, .slice Af nf cf] w fun e w' => ∃ A' c', e = .returned (.slice A' (buildF ⟨10, zi, 0, 0, 0, 0⟩ [f]).length c') ∧ Reads w' w'.heap.size 6 A' (buildF ⟨10, zi, 0, 0, 0, 0⟩ [f]).length (nds (buildF ⟨10, zi, 0, 0, 0, 0⟩ [f])) ∧ Below w.heap.size w w' := by
  have hlf := hRf.nd_len
  subst hlf
  have HC := Lib.hid (build_1 ⟨10, zi, 0, 0, 0, 0⟩ f Af cf w rfl rfl hRf hmf (fin_1 ⟨10, zi, 0, 0, 0, 0⟩ f rfl ⟨Or.inr (Or.inl rfl), Or.inr rfl, Or.inr rfl⟩ rfl rfl rfl))
  unfold nv at HC
  generalize buildF ⟨10, zi, 0, 0, 0, 0⟩ [f] = q at *
  dsimp only at HC
  go_enter Tryd.func31, Tryd.ntmps31
  go_wp2_with fail
  refine (HC.out).mono ?_
  rintro e w2 ⟨A', c', rfl, hR2, hb2⟩
  have HR2 := Lib.hid hR2
  have HB2 := Lib.hid hb2
  clear hR2 hb2
  go_wp2
  go_ret
  exact ⟨A', c', rfl, HR2.out, HB2.out⟩
set_option maxRecDepth 100000 in
theorem pSafe_any (zi : Int) (f : List Nd) (Af : Option Addr) (nf cf : Nat) (w : World) (hRf : Reads w w.heap.size 6 Af nf (nds f)) (hmf : nf ≤ maxLen) :
    Calls Tryd.prog 32 #[.int .i64 zi, .slice Af nf cf] w fun e w' => ∃ A' c', e = .returned (.slice A' (buildF ⟨15, zi, 0, 0, 0, 0⟩ [f]).length c') ∧ Reads w' w'.heap.size 6 A' (buildF ⟨15, zi, 0, 0, 0, 0⟩ [f]).length (nds (buildF ⟨15, zi, 0, 0, 0, 0⟩ [f])) ∧ Below w.heap.size w w' := by
  have hlf := hRf.nd_len
  subst hlf
  have HC := Lib.hid (build_1 ⟨15, zi, 0, 0, 0, 0⟩ f Af cf w rfl rfl hRf hmf (fin_1 ⟨15, zi, 0, 0, 0, 0⟩ f rfl ⟨Or.inr (Or.inl rfl), Or.inr rfl, Or.inr rfl⟩ rfl rfl rfl))
  unfold nv at HC
  generalize buildF ⟨15, zi, 0, 0, 0, 0⟩ [f] = q at *
  dsimp only at HC
  go_enter Tryd.func32, Tryd.ntmps32
  go_wp2_with fail
  refine (HC.out).mono ?_
  rintro e w2 ⟨A', c', rfl, hR2, hb2⟩
  have HR2 := Lib.hid hR2
  have HB2 := Lib.hid hb2
  clear hR2 hb2
  go_wp2
  go_ret
  exact ⟨A', c', rfl, HR2.out, HB2.out⟩
set_option maxRecDepth 100000 in
theorem pNext_any (f : List Nd) (Af : Option Addr) (nf cf : Nat) (w : World) (hRf : Reads w w.heap.size 6 Af nf (nds f)) (hmf : nf ≤ maxLen) :
    Calls Tryd.prog 33 #[.slice Af nf cf] w fun e w' => ∃ A' c', e = .returned (.slice A' (buildF ⟨18, 0, 0, 0, 0, 0⟩ [f]).length c') ∧ Reads w' w'.heap.size 6 A' (buildF ⟨18, 0, 0, 0, 0, 0⟩ [f]).length (nds (buildF ⟨18, 0, 0, 0, 0, 0⟩ [f])) ∧ Below w.heap.size w w' := by
  have hlf := hRf.nd_len
  subst hlf
  have HC := Lib.hid (build_1 ⟨18, 0, 0, 0, 0, 0⟩ f Af cf w rfl rfl hRf hmf (fin_1 ⟨18, 0, 0, 0, 0, 0⟩ f rfl ⟨Or.inr (Or.inr (Or.inr rfl)), Or.inr rfl, Or.inr rfl⟩ rfl rfl rfl))
  unfold nv at HC
  generalize buildF ⟨18, 0, 0, 0, 0, 0⟩ [f] = q at *
  dsimp only at HC
  go_enter Tryd.func33, Tryd.ntmps33
  go_wp2_with fail
  refine (HC.out).mono ?_
  rintro e w2 ⟨A', c', rfl, hR2, hb2⟩
  have HR2 := Lib.hid hR2
  have HB2 := Lib.hid hb2
  clear hR2 hb2
  go_wp2
  go_ret
  exact ⟨A', c', rfl, HR2.out, HB2.out⟩
set_option maxRecDepth 100000 in
theorem pUntil_any (f : List Nd) (Af : Option Addr) (nf cf : Nat) (h : List Nd) (Ah : Option Addr) (nh ch : Nat) (w : World) (hRf : Reads w w.heap.size 6 Af nf (nds f)) (hmf : nf ≤ maxLen) (hRh : Reads w w.heap.size 6 Ah nh (nds h)) (hmh : nh ≤ maxLen) :
    Calls Tryd.prog 26 #[.slice Af nf cf, .slice Ah nh ch] w fun e w' => ∃ A' c', e = .returned (.slice A' (buildF ⟨19, 0, 0, 0, 0, 0⟩ [f, h]).length c') ∧ Reads w' w'.heap.size 6 A' (buildF ⟨19, 0, 0, 0, 0, 0⟩ [f, h]).length (nds (buildF ⟨19, 0, 0, 0, 0, 0⟩ [f, h])) ∧ Below w.heap.size w w' := by
  have hlf := hRf.nd_len
  subst hlf
  have hlh := hRh.nd_len
  subst hlh
  have HC := Lib.hid (build_2 ⟨19, 0, 0, 0, 0, 0⟩ f h Af Ah cf ch w rfl rfl hRf hRh hmf hmh (fin_2 ⟨19, 0, 0, 0, 0, 0⟩ f h rfl ⟨Or.inr (Or.inr (Or.inr rfl)), Or.inr rfl, Or.inr rfl⟩ rfl rfl))
  unfold nv at HC
  generalize buildF ⟨19, 0, 0, 0, 0, 0⟩ [f, h] = q at *
  dsimp only at HC
  go_enter Tryd.func26, Tryd.ntmps26
  go_wp2_with fail
  refine (HC.out).mono ?_
  rintro e w2 ⟨A', c', rfl, hR2, hb2⟩
  have HR2 := Lib.hid hR2
  have HB2 := Lib.hid hb2
  clear hR2 hb2
  go_wp2
  go_ret
  exact ⟨A', c', rfl, HR2.out, HB2.out⟩
set_option maxRecDepth 100000 in
theorem pPrev_any (f : List Nd) (Af : Option Addr) (nf cf : Nat) (w : World) (hRf : Reads w w.heap.size 6 Af nf (nds f)) (hmf : nf ≤ maxLen) :
    Calls Tryd.prog 34 #[.slice Af nf cf] w fun e w' => ∃ A' c', e = .returned (.slice A' (buildF ⟨20, 0, 0, 0, 0, 0⟩ [f]).length c') ∧ Reads w' w'.heap.size 6 A' (buildF ⟨20, 0, 0, 0, 0, 0⟩ [f]).length (nds (buildF ⟨20, 0, 0, 0, 0, 0⟩ [f])) ∧ Below w.heap.size w w' := by
  have hlf := hRf.nd_len
  subst hlf
  have HC := Lib.hid (build_1 ⟨20, 0, 0, 0, 0, 0⟩ f Af cf w rfl rfl hRf hmf (fin_1 ⟨20, 0, 0, 0, 0, 0⟩ f rfl ⟨Or.inr (Or.inr (Or.inr rfl)), Or.inr rfl, Or.inr rfl⟩ rfl rfl rfl))
  unfold nv at HC
  generalize buildF ⟨20, 0, 0, 0, 0, 0⟩ [f] = q at *
  dsimp only at HC
  go_enter Tryd.func34, Tryd.ntmps34
  go_wp2_with fail
  refine (HC.out).mono ?_
  rintro e w2 ⟨A', c', rfl, hR2, hb2⟩
  have HR2 := Lib.hid hR2
  have HB2 := Lib.hid hb2
  clear hR2 hb2
  go_wp2
  go_ret
  exact ⟨A', c', rfl, HR2.out, HB2.out⟩
set_option maxRecDepth 100000 in
theorem pSince_any (f : List Nd) (Af : Option Addr) (nf cf : Nat) (h : List Nd) (Ah : Option Addr) (nh ch : Nat) (w : World) (hRf : Reads w w.heap.size 6 Af nf (nds f)) (hmf : nf ≤ maxLen) (hRh : Reads w w.heap.size 6 Ah nh (nds h)) (hmh : nh ≤ maxLen) :
    Calls Tryd.prog 27 #[.slice Af nf cf, .slice Ah nh ch] w fun e w' => ∃ A' c', e = .returned (.slice A' (buildF ⟨21, 0, 0, 0, 0, 0⟩ [f, h]).length c') ∧ Reads w' w'.heap.size 6 A' (buildF ⟨21, 0, 0, 0, 0, 0⟩ [f, h]).length (nds (buildF ⟨21, 0, 0, 0, 0, 0⟩ [f, h])) ∧ Below w.heap.size w w' := by
  have hlf := hRf.nd_len
  subst hlf
  have hlh := hRh.nd_len
  subst hlh
  have HC := Lib.hid (build_2 ⟨21, 0, 0, 0, 0, 0⟩ f h Af Ah cf ch w rfl rfl hRf hRh hmf hmh (fin_2 ⟨21, 0, 0, 0, 0, 0⟩ f h rfl ⟨Or.inr (Or.inr (Or.inr rfl)), Or.inr rfl, Or.inr rfl⟩ rfl rfl))
  unfold nv at HC
  generalize buildF ⟨21, 0, 0, 0, 0, 0⟩ [f, h] = q at *
  dsimp only at HC
  go_enter Tryd.func27, Tryd.ntmps27
  go_wp2_with fail
  refine (HC.out).mono ?_
  rintro e w2 ⟨A', c', rfl, hR2, hb2⟩
  have HR2 := Lib.hid hR2
  have HB2 := Lib.hid hb2
  clear hR2 hb2
  go_wp2
  go_ret
  exact ⟨A', c', rfl, HR2.out, HB2.out⟩
end Go.Proofs.YthhkeobjjeldhaaDoor
/- Layer 5: the builders of the reference: short, One, Unary, Binary. -/
namespace Go.Proofs.Ws
open Go
/-- the canonical list of a list of nodes, or nothing if it is too long -/
def shortF (l : List Nd) : List Nd := if 200 < (canonF l).length then [] else canonF l
def oneF (x : Nd) : List Nd := if nodeErr x 0 = 0 then [x] else []
def unaryF (x : Nd) (f : List Nd) : List Nd :=
  if fErr f = 0 then (if nodeErr { x with x := (f.length : Int) - 1 } f.length = 0 then shortF (f ++ [{ x with x := (f.length : Int) - 1 }]) else []) else []
def binaryF (x : Nd) (f g : List Nd) : List Nd :=
  if fErr f = 0 then (if fErr g = 0 then (if nodeErr { x with x := (f.length : Int) - 1, y := (f.length + g.length : Int) - 1 } ((f.length + g.length : Nat) : Int) = 0 then
    shortF (f ++ g.map (shiftN f.length) ++ [{ x with x := (f.length : Int) - 1, y := (f.length + g.length : Int) - 1 }]) else []) else []) else []
end Go.Proofs.Ws
namespace Go.Proofs.YthhkeobjjeldhaaDoor
open Go.RowKit Go.Proofs.Ws Go.Maps
theorem snoc_kn {l : List Nd} {n : Nd} (h2 : ∀ m ∈ l, fldOk m) (hf : fldOk n) : knownL (l ++ [n]) := by
  intro i hi
  have hm := getD_mem hi
  rcases List.mem_append.1 hm with h | h
  · exact (h2 _ h).1
  · rw [List.mem_singleton.1 h]; exact hf.1
end Go.Proofs.YthhkeobjjeldhaaDoor
/- Layer 5: Binary of the reference. -/
namespace Go.Proofs.YthhkeobjjeldhaaDoor
open Go.RowKit Go.Proofs.Ws Go.Maps
/-- the list of the first operand, and the first nodes of the second one behind it -/
def catL (f g : List Nd) (j : Nat) : List Nd := f ++ (g.take j).map (shiftN f.length)
theorem catL_ok {f g : List Nd} (hf : fErr f = 0) (hg : fErr g = 0) : opsL (f ++ g.map (shiftN f.length)) ∧ ∀ m ∈ f ++ g.map (shiftN f.length), fldOk m := by
  have h := catK_ok [f, g] (by intro h hh; simp at hh; rcases hh with rfl | rfl <;> assumption) 2 (by simp)
  have e : catKn [f, g] 2 = f ++ g.map (shiftN f.length) := by
    have hs : f.map (shiftN 0) = f := by
      have : ∀ l : List Nd, l.map (shiftN 0) = l := by
        intro l
        induction l with
        | nil => rfl
        | cons a l ih =>
          rw [List.map_cons, ih]
          congr 1
          obtain ⟨o, i, e, g', x, y⟩ := a
          simp [shiftN]
      exact this f
    simp [catKn, catS, hs]
  rw [e] at h
  exact ⟨h.1, h.2.1⟩
end Go.Proofs.YthhkeobjjeldhaaDoor
/- Layer 5: both ways of building give the same formula. -/
namespace Go.Proofs.YthhkeobjjeldhaaDoor
open Go.RowKit Go.Proofs.Ws Go.Maps
/-- the fields that an operator does not use are 0, but for its operands -/
def cleanN (n : Nd) : Prop := (n.op = 3 ∨ hasAgent n.op = true ∨ n.op = 17 ∨ n.i = 0) ∧ (n.op = 17 ∨ n.e = 0) ∧ (hasGroup n.op = true ∨ n.g = 0)
theorem node_build {n n' : Nd} {k : Nat} (hk : known n.op = true) (hc : cleanN n) (ho : opsOk n' k) (h1 : n'.op = n.op) (h2 : n'.i = n.i) (h3 : n'.e = n.e) (h4 : n'.g = n.g) : nodeErr n' (k : Int) = 0 ↔ rangeOk n = true := by
  rw [nodeErr_iff]
  have hr : rangeOk n' = rangeOk n := by unfold rangeOk; rw [h1, h2, h3, h4]
  unfold fldOk
  rw [hr, h1, h2, h3, h4]
  exact ⟨fun h => h.2.2.2, fun h => ⟨ho, hk, hc, h⟩⟩
theorem buildF_one {n : Nd} (hk : known n.op = true) (hc : cleanN n) (hx : n.x = 0) (hy : n.y = 0) (hux : usesX n.op = false) : buildF n [] = oneF n := by
  have huy : usesY n.op = false := by
    cases h : usesY n.op with
    | false => rfl
    | true => have := usesY_X h; rw [hux] at this; cases this
  have ho : opsOk n 0 := ⟨by rw [if_neg (by rw [hux]; decide)]; exact hx, by rw [if_neg (by rw [huy]; decide)]; exact hy⟩
  have hn : nodeErr n 0 = 0 ↔ rangeOk n = true := node_build (n' := n) hk hc ho rfl rfl rfl rfl
  have hcan : canonF [n] = [n] := by
    unfold canonF
    simp [finW, hux, huy, putNd, hx, hy]
    obtain ⟨a, b, c, d, e, f⟩ := n
    simp at hx hy
    simp [hx, hy]
  unfold buildF oneF
  cases hr : rangeOk n with
  | false =>
    rw [if_pos rfl, if_neg (fun h => by have := hn.1 h; rw [hr] at this; cases this)]
  | true =>
    rw [if_neg (by decide), if_neg (by simp), if_pos (hn.2 hr)]
    show (if 200 < (canonF [n]).length then [] else canonF [n]) = [n]
    rw [hcan, if_neg (by simp)]
theorem map_shift0 : ∀ l : List Nd, l.map (shiftN 0) = l := by
  intro l
  induction l with
  | nil => rfl
  | cons a l ih =>
    rw [List.map_cons, ih]
    congr 1
    obtain ⟨o, i, e, g', x, y⟩ := a
    simp [shiftN]
theorem buildF_un {n : Nd} {f : List Nd} (hk : known n.op = true) (hc : cleanN n) (hy : n.y = 0) (hux : usesX n.op = true) (huy : usesY n.op = false) : buildF n [f] = unaryF n f := by
  unfold buildF unaryF
  by_cases hz : fErr f = 0
  · have hne : f.length ≠ 0 := by simpa using (fErr_ok hz).1
    have ho : opsOk { n with x := (f.length : Int) - 1 } f.length := ⟨by rw [if_pos hux]; dsimp only; omega, by rw [if_neg (by rw [huy]; decide)]; exact hy⟩
    have hn := node_build (n' := { n with x := (f.length : Int) - 1 }) hk hc ho rfl rfl rfl rfl
    rw [if_pos hz]
    have he : ¬ ∃ g ∈ [f], fErr g ≠ 0 := by simp [hz]
    rw [if_neg he]
    cases hr : rangeOk n with
    | false => rw [if_pos rfl, if_neg (fun h => by have := hn.1 h; rw [hr] at this; cases this)]
    | true =>
      rw [if_neg (by decide), if_pos (hn.2 hr)]
      have e : catS [f] [] = f := by simp [catS, map_shift0]
      rw [e]
      rfl
  · rw [if_neg hz]
    have he : ∃ g ∈ [f], fErr g ≠ 0 := ⟨f, by simp, hz⟩
    rw [if_pos he]
    split <;> rfl
theorem buildF_bin {n : Nd} {f g : List Nd} (hk : known n.op = true) (hc : cleanN n) (hux : usesX n.op = true) (huy : usesY n.op = true) : buildF n [f, g] = binaryF n f g := by
  unfold buildF binaryF
  by_cases hz : fErr f = 0
  · by_cases hz2 : fErr g = 0
    · have hne : f.length ≠ 0 := by simpa using (fErr_ok hz).1
      have hne2 : g.length ≠ 0 := by simpa using (fErr_ok hz2).1
      have ho : opsOk { n with x := (f.length : Int) - 1, y := (f.length + g.length : Int) - 1 } (f.length + g.length) := ⟨by rw [if_pos hux]; dsimp only; omega, by rw [if_pos huy]; dsimp only; omega⟩
      have hn := node_build (n' := { n with x := (f.length : Int) - 1, y := (f.length + g.length : Int) - 1 }) hk hc ho rfl rfl rfl rfl
      rw [if_pos hz, if_pos hz2]
      have he : ¬ ∃ h ∈ [f, g], fErr h ≠ 0 := by simp [hz, hz2]
      rw [if_neg he]
      cases hr : rangeOk n with
      | false => rw [if_pos rfl, if_neg (fun h => by have := hn.1 h; rw [hr] at this; cases this)]
      | true =>
        rw [if_neg (by decide), if_pos (hn.2 hr)]
        have e : catS [f, g] [] = f ++ g.map (shiftN f.length) := by simp [catS, map_shift0]
        rw [e]
        rfl
    · rw [if_pos hz, if_neg hz2]
      have he : ∃ h ∈ [f, g], fErr h ≠ 0 := ⟨g, by simp, hz2⟩
      rw [if_pos he]
      split <;> rfl
  · rw [if_neg hz]
    have he : ∃ h ∈ [f, g], fErr h ≠ 0 := ⟨f, by simp, hz⟩
    rw [if_pos he]
    split <;> rfl
end Go.Proofs.YthhkeobjjeldhaaDoor
/- Layer 5: the law's own ways to build: with a constructor of the program, and as specified. -/
namespace Go.Proofs.Ws
open Go
/-- the node of an operator with the numbers that it uses -/
def cleanP (k i e g : Int) : Nd := ⟨k, if decide (k = 3) || hasAgent k || decide (k = 17) then i else 0, if k = 17 then e else 0, if hasGroup k = true then g else 0, 0, 0⟩
/-- the formula of an operator at numbers and operands -/
def partsF (k i e g : Int) (f h : List Nd) : List Nd := if usesY k = true then buildF (cleanP k i e g) [f, h] else if usesX k = true then buildF (cleanP k i e g) [f] else buildF (cleanP k i e g) []
end Go.Proofs.Ws
namespace Go.Proofs.YthhkeobjjeldhaaDoor
open Go.RowKit Go.Proofs.Ws Go.Maps
theorem partsF_un {n : Nd} {f h : List Nd} {k i e g : Int} (hn : cleanP k i e g = n) (hux : usesX k = true) (huy : usesY k = false) : partsF k i e g f h = buildF n [f] := by
  unfold partsF; rw [hux, huy, hn]; rfl
end Go.Proofs.YthhkeobjjeldhaaDoor
/- Layer 5: Depth of the program. -/
namespace Go.Proofs.Ws
open Go
def modalOp (op : Int) : Bool := (decide (9 ≤ op) && decide (op ≤ 15)) || (decide (18 ≤ op) && decide (op ≤ 21))
/-- the depths of the first nodes, by the list of the depths so far -/
def depStep (ds : List Int) (n : Nd) : Int := max (ds.getD n.x.toNat 0) (ds.getD n.y.toNat 0) + (if modalOp n.op = true then 1 else 0)
def depL : List Nd → List Int → List Int
  | [], ds => ds
  | n :: l, ds => depL l (ds ++ [depStep ds n])
def depF (f : List Nd) : Int := if fErr f = 0 then (depL (compF f) []).getLastD 0 else -1
end Go.Proofs.Ws
namespace Go.Proofs.YthhkeobjjeldhaaDoor
open Go.RowKit Go.Proofs.Ws Go.Maps
/-- block g holds just these numbers -/
def DS (W : World) (g : Nat) (l : List Int) : Prop := W.heap[g]? = some (.cells (is l).toArray 3 (0, 0))
theorem DS.cell {W : World} {g : Nat} {l : List Int} (h : DS W g l) {k : Nat} (hk : k < l.length) : W.cell? ⟨g, k, none⟩ = some (.int .i64 (l.getD k 0)) := by
  rw [Lib.cell_of_heap h]
  simp [is, hk]
theorem DS.free {W : World} {g : Nat} {l : List Int} (h : DS W g l) (k : Nat) : W.frozen? ⟨g, k, none⟩ = false := Lib.frozen_of_heap h k
theorem DS.put {W : World} {g : Nat} {l : List Int} (h : DS W g l) (k : Nat) (x : Int) : DS (W.setCell ⟨g, k, none⟩ (.int .i64 x)) g (l.set k x) := by
  unfold DS at h ⊢
  have e : (is (l.set k x)).toArray = (is l).toArray.setIfInBounds k (.int .i64 x) := by
    unfold is
    rw [List.map_set]
    simp
  rw [e]
  simp [World.setCell, Array.getElem?_modify, h]
theorem DS.keep {W W' : World} {g : Nat} {l : List Int} (h : DS W g l) (hb : W'.heap[g]? = W.heap[g]?) : DS W' g l := hb.trans h
theorem zeros_is (n : Nat) : zeros n = (is (List.replicate n 0)).toArray := by
  apply Array.ext
  · simp [zeros, is]
  · intro i h1 h2
    simp [zeros, is]
/-- the depths after k rounds -/
def dpL (q : List Nd) (k : Nat) : List Int := depL (q.take k) []
theorem depL_app (a : List Nd) (n : Nd) (ds : List Int) : depL (a ++ [n]) ds = depL a ds ++ [depStep (depL a ds) n] := by
  induction a generalizing ds with
  | nil => rfl
  | cons b a ih => exact ih _
theorem depL_len (a : List Nd) (ds : List Int) : (depL a ds).length = ds.length + a.length := by
  induction a generalizing ds with
  | nil => rfl
  | cons b a ih =>
    show (depL a (ds ++ [depStep ds b])).length = _
    rw [ih]; simp; omega
theorem dpL_succ (q : List Nd) (k : Nat) (h : k < q.length) : dpL q (k + 1) = dpL q k ++ [depStep (dpL q k) (q.getD k nd0)] := by
  unfold dpL
  rw [List.take_succ_eq_append_getElem h, depL_app, show q.getD k nd0 = q[k] from by simp [h]]
theorem dpL_len (q : List Nd) (k : Nat) (h : k ≤ q.length) : (dpL q k).length = k := by
  unfold dpL
  rw [depL_len, List.length_take]; simp; omega
theorem dep_range (q : List Nd) : ∀ k, k ≤ q.length → ∀ j, 0 ≤ (dpL q k).getD j 0 ∧ (dpL q k).getD j 0 ≤ k := by
  intro k
  induction k with
  | zero => intro _ j; show 0 ≤ ([] : List Int).getD j 0 ∧ _; simp [dpL, depL]
  | succ k ih =>
    intro h j
    have hl := dpL_len q k (by omega)
    rw [dpL_succ q k (by omega)]
    by_cases e : j < k
    · rw [List.getD_eq_getElem?_getD, List.getElem?_append_left (by omega), ← List.getD_eq_getElem?_getD]
      have := ih (by omega) j
      omega
    · by_cases e2 : j = k
      · subst e2
        rw [List.getD_eq_getElem?_getD, List.getElem?_append_right (by omega), hl]
        simp only [Nat.sub_self, List.getElem?_cons_zero, Option.getD_some]
        have h1 := ih (by omega) (q.getD j nd0).x.toNat
        have h2 := ih (by omega) (q.getD j nd0).y.toNat
        unfold depStep
        split <;> omega
      · rw [List.getD_eq_getElem?_getD, List.getElem?_eq_none (by simp; omega)]
        simp
        omega
theorem pad_getD (ds : List Int) (m j : Nat) : (ds ++ List.replicate m 0).getD j 0 = ds.getD j 0 := by
  by_cases h : j < ds.length
  · rw [List.getD_eq_getElem?_getD, List.getElem?_append_left h, ← List.getD_eq_getElem?_getD]
  · rw [List.getD_eq_getElem?_getD, List.getElem?_append_right (by omega), List.getElem?_replicate, List.getD_eq_getElem?_getD, List.getElem?_eq_none (by omega)]
    split <;> rfl
theorem pad_set (ds : List Int) (m : Nat) (x : Int) : (ds ++ List.replicate (m + 1) 0).set ds.length x = (ds ++ [x]) ++ List.replicate m 0 := by
  rw [List.replicate_succ]
  simp
end Go.Proofs.YthhkeobjjeldhaaDoor
/-! Compare is an order (mathematics). -/
namespace Go.Proofs.Ws
open Go
/-- a comparison that is an order: -1, 0, 1 -/
structure Ord3 {α : Type} (c : α → α → Int) : Prop where
  vals : ∀ a b, c a b = -1 ∨ c a b = 0 ∨ c a b = 1
  anti : ∀ a b, c b a = -c a b
  trans : ∀ a b d, c a b ≤ 0 → c b d ≤ 0 → c a d = min (c a b) (c b d)
theorem cmpI_ord : Ord3 cmpI := by
  refine ⟨fun a b => ?_, fun a b => ?_, fun a b d => ?_⟩
  · unfold cmpI; split
    · exact .inl rfl
    · split
      · exact .inr (.inr rfl)
      · exact .inr (.inl rfl)
  · unfold cmpI; repeat' split
    all_goals omega
  · unfold cmpI; repeat' split
    all_goals omega
/-- what stands first decides, else what stands second -/
theorem lex_trans (p q r p' q' r' : Int) (_h3 : p = -1 ∨ p = 0 ∨ p = 1) (_h4 : q = -1 ∨ q = 0 ∨ q = 1) (h5 : p' = -1 ∨ p' = 0 ∨ p' = 1) (h6 : q' = -1 ∨ q' = 0 ∨ q' = 1)
    (h1 : p ≤ 0 → q ≤ 0 → r = min p q) (h2 : p = 0 → q = 0 → p' ≤ 0 → q' ≤ 0 → r' = min p' q') :
    (if p ≠ 0 then p else p') ≤ 0 → (if q ≠ 0 then q else q') ≤ 0 → (if r ≠ 0 then r else r') = min (if p ≠ 0 then p else p') (if q ≠ 0 then q else q') := by
  intro a b
  by_cases z1 : p = 0
  · rw [if_neg (show ¬ p ≠ 0 from fun h => h z1)] at a ⊢
    by_cases z2 : q = 0
    · rw [if_neg (show ¬ q ≠ 0 from fun h => h z2)] at b ⊢
      have h := h1 (by omega) (by omega)
      have z3 : r = 0 := by omega
      rw [if_neg (show ¬ r ≠ 0 from fun h => h z3)]
      exact h2 z1 z2 a b
    · rw [if_pos (show q ≠ 0 from z2)] at b ⊢
      have h := h1 (by omega) (by omega)
      have z3 : r ≠ 0 := by omega
      rw [if_pos z3]
      omega
  · rw [if_pos (show p ≠ 0 from z1)] at a ⊢
    by_cases z2 : q = 0
    · rw [if_neg (show ¬ q ≠ 0 from fun h => h z2)] at b ⊢
      have h := h1 (by omega) (by omega)
      have z3 : r ≠ 0 := by omega
      rw [if_pos z3]
      omega
    · rw [if_pos (show q ≠ 0 from z2)] at b ⊢
      have h := h1 (by omega) (by omega)
      have z3 : r ≠ 0 := by omega
      rw [if_pos z3]
      exact h
/-- first by one comparison, then by another -/
theorem Ord3.lex {α : Type} {c d : α → α → Int} (h : Ord3 c) (k : Ord3 d) : Ord3 (fun a b => if c a b ≠ 0 then c a b else d a b) := by
  refine ⟨fun a b => ?_, fun a b => ?_, fun a b e => ?_⟩
  · have h1 := h.vals a b
    have h2 := k.vals a b
    split <;> assumption
  · have h1 := h.anti a b
    have h2 := k.anti a b
    rw [h1, h2]
    split <;> split <;> omega
  · exact lex_trans _ _ _ _ _ _ (h.vals a b) (h.vals b e) (k.vals a b) (k.vals b e) (h.trans a b e) (fun _ _ => k.trans a b e)
theorem Ord3.on {α β : Type} {c : β → β → Int} (h : Ord3 c) (f : α → β) : Ord3 (fun a b => c (f a) (f b)) :=
  ⟨fun _ _ => h.vals _ _, fun _ _ => h.anti _ _, fun _ _ _ => h.trans _ _ _⟩
theorem cmpN_ord : Ord3 cmpN := by
  have e : cmpN = fun a b : Nd => if cmpI a.op b.op ≠ 0 then cmpI a.op b.op else if cmpI a.i b.i ≠ 0 then cmpI a.i b.i else if cmpI a.e b.e ≠ 0 then cmpI a.e b.e else if cmpI a.g b.g ≠ 0 then cmpI a.g b.g else if cmpI a.x b.x ≠ 0 then cmpI a.x b.x else cmpI a.y b.y := by
    funext a b
    unfold cmpN firstNZ firstNZ firstNZ firstNZ firstNZ firstNZ firstNZ
    repeat' split
    all_goals first | rfl | (simp_all; done)
  rw [e]
  exact (cmpI_ord.on Nd.op).lex ((cmpI_ord.on Nd.i).lex ((cmpI_ord.on Nd.e).lex ((cmpI_ord.on Nd.g).lex ((cmpI_ord.on Nd.x).lex (cmpI_ord.on Nd.y)))))
/-- lists of one length, node by node -/
theorem cmpNs_vals : ∀ (a b : List Nd), cmpNs a b = -1 ∨ cmpNs a b = 0 ∨ cmpNs a b = 1
  | [], [] => .inr (.inl rfl)
  | [], _ :: _ => .inr (.inl rfl)
  | _ :: _, [] => .inr (.inl rfl)
  | x :: a, y :: b => by
    have h1 := cmpN_ord.vals x y
    have h2 := cmpNs_vals a b
    have e : cmpNs (x :: a) (y :: b) = if cmpN x y ≠ 0 then cmpN x y else cmpNs a b := rfl
    rw [e]
    split <;> assumption
theorem cmpNs_anti : ∀ (a b : List Nd), cmpNs b a = -cmpNs a b
  | [], [] => rfl
  | [], _ :: _ => rfl
  | _ :: _, [] => rfl
  | x :: a, y :: b => by
    have h1 := cmpN_ord.anti x y
    have h2 := cmpNs_anti a b
    have e : cmpNs (x :: a) (y :: b) = if cmpN x y ≠ 0 then cmpN x y else cmpNs a b := rfl
    have e' : cmpNs (y :: b) (x :: a) = if cmpN y x ≠ 0 then cmpN y x else cmpNs b a := rfl
    rw [e, e', h1, h2]
    split <;> split <;> omega
theorem cmpNs_trans : ∀ (a b d : List Nd), a.length = b.length → b.length = d.length → cmpNs a b ≤ 0 → cmpNs b d ≤ 0 → cmpNs a d = min (cmpNs a b) (cmpNs b d)
  | [], [], [], _, _ => fun _ _ => rfl
  | x :: a, y :: b, z :: d, h1, h2 => by
    have ih := cmpNs_trans a b d (by simpa using h1) (by simpa using h2)
    exact lex_trans _ _ _ _ _ _ (cmpN_ord.vals x y) (cmpN_ord.vals y z) (cmpNs_vals a b) (cmpNs_vals b d) (cmpN_ord.trans x y z) (fun _ _ => ih)
/-- Compare is an order -/
theorem cmpF_ord : Ord3 cmpF := by
  refine ⟨fun a b => ?_, fun a b => ?_, fun a b d => ?_⟩
  · unfold cmpF
    have h1 := cmpI_ord.vals (compF a).length (compF b).length
    have h2 := cmpNs_vals (compF a) (compF b)
    split <;> assumption
  · unfold cmpF
    rw [cmpI_ord.anti (compF a).length (compF b).length, cmpNs_anti (compF a) (compF b)]
    split <;> split <;> omega
  · unfold cmpF
    generalize compF a = p
    generalize compF b = q
    generalize compF d = r
    have e1 : ∀ m n : Nat, cmpI (m : Int) (n : Int) = 0 → m = n := fun m n h => by
      unfold cmpI at h
      repeat' split at h
      all_goals omega
    exact lex_trans _ _ _ _ _ _ (cmpI_ord.vals _ _) (cmpI_ord.vals _ _) (cmpNs_vals p q) (cmpNs_vals q r) (cmpI_ord.trans _ _ _)
      (fun z1 z2 => cmpNs_trans p q r (e1 _ _ z1) (e1 _ _ z2))
end Go.Proofs.Ws
/- Layer 5: subformulas: depth, fragments, order (mathematics). -/
namespace Go.Proofs.YthhkeobjjeldhaaDoor
open Go.RowKit Go.Proofs.Ws Go.Maps
/-- a node's own depth -/
def mOf (op : Int) : Int := if modalOp op = true then 1 else 0
/-- the depth of a tree -/
def depT : Tr → Int
  | .leaf n => mOf n.op
  | .un n a => depT a + mOf n.op
  | .bin n a b => max (depT a) (depT b) + mOf n.op
theorem mOf_leaf {op : Int} (h : usesX op = false) : mOf op = 0 := by
  unfold mOf
  rw [if_neg]
  unfold usesX at h
  unfold modalOp
  simp only [Bool.and_eq_false_iff, decide_eq_false_iff_not, Bool.or_eq_true, Bool.and_eq_true, decide_eq_true_eq] at h ⊢
  omega
theorem mOf_nonneg (op : Int) : 0 ≤ mOf op := by unfold mOf; split <;> omega
theorem depT_nonneg : ∀ t : Tr, 0 ≤ depT t
  | .leaf n => mOf_nonneg n.op
  | .un n a => by have := depT_nonneg a; have := mOf_nonneg n.op; show 0 ≤ depT a + mOf n.op; omega
  | .bin n a b => by have := depT_nonneg a; have := mOf_nonneg n.op; show 0 ≤ max (depT a) (depT b) + mOf n.op; omega
theorem depT_sub {s : Tr} : ∀ {t : Tr}, subT s t → depT s ≤ depT t
  | .leaf n, h => by have h : s = .leaf n := h; rw [h]; exact Int.le_refl _
  | .un n a, h => by
    rcases h with h | h
    · rw [h]; exact Int.le_refl _
    · have := depT_sub h
      have := mOf_nonneg n.op
      show depT s ≤ depT a + mOf n.op
      omega
  | .bin n a b, h => by
    have := mOf_nonneg n.op
    rcases h with h | h | h
    · rw [h]; exact Int.le_refl _
    · have := depT_sub h
      show depT s ≤ max (depT a) (depT b) + mOf n.op
      omega
    · have := depT_sub h
      show depT s ≤ max (depT a) (depT b) + mOf n.op
      omega
theorem first_leaf {o : List Nd} (ho : opsL o) (h : 0 < o.length) : usesX (o.getD 0 nd0).op = false := by
  cases hx : usesX (o.getD 0 nd0).op with
  | false => rfl
  | true => have := opsOk_x (ho 0 h) hx; omega
theorem depT_first {o : List Nd} (ho : opsL o) (h : 0 < o.length) : depT (treeAt o 0) = 0 := by
  have hx := first_leaf ho h
  have hy : usesY (o.getD 0 nd0).op = false := by
    cases hy : usesY (o.getD 0 nd0).op with
    | false => rfl
    | true => rw [usesY_X hy] at hx; cases hx
  rw [treeAt_eq ho h, if_neg (by rw [hy]; simp), if_neg (by rw [hx]; simp)]
  exact mOf_leaf hx
/-- the depth of a node is its tree's -/
theorem dep_tree {o : List Nd} (ho : opsL o) : ∀ k, k ≤ o.length → ∀ j, j < k → (dpL o k).getD j 0 = depT (treeAt o j) := by
  intro k
  induction k with
  | zero => intro _ j h; omega
  | succ k ih =>
    intro hk j hj
    have hl := dpL_len o k (by omega)
    rw [dpL_succ o k (by omega)]
    by_cases e : j < k
    · rw [List.getD_eq_getElem?_getD, List.getElem?_append_left (by omega), ← List.getD_eq_getElem?_getD]
      exact ih (by omega) j e
    · have e2 : j = k := by omega
      subst e2
      rw [List.getD_eq_getElem?_getD, List.getElem?_append_right (by omega), hl]
      simp only [Nat.sub_self, List.getElem?_cons_zero, Option.getD_some]
      have hop := ho j (by omega)
      have ih := ih (by omega)
      have h0 : (dpL o j).getD 0 0 = 0 := by
        by_cases hz : 0 < j
        · rw [ih 0 hz, depT_first ho (by omega)]
        · have : dpL o j = [] := List.length_eq_zero_iff.1 (by omega)
          rw [this]; rfl
      rw [treeAt_eq ho (show j < o.length by omega)]
      unfold depStep
      by_cases hy : usesY (o.getD j nd0).op = true
      · have h1 := opsOk_x hop (usesY_X hy)
        have h2 := opsOk_y hop hy
        rw [if_pos hy, ih _ h1.2, ih _ h2.2]
        rfl
      · have y0 : (o.getD j nd0).y = 0 := by have := hop.2; rw [if_neg hy] at this; exact this
        rw [if_neg hy]
        by_cases hx : usesX (o.getD j nd0).op = true
        · have h1 := opsOk_x hop hx
          rw [if_pos hx, ih _ h1.2, y0, Int.toNat_zero, h0]
          have := depT_nonneg (treeAt o (o.getD j nd0).x.toNat)
          rw [Int.max_eq_left this]
          rfl
        · have x0 : (o.getD j nd0).x = 0 := by have := hop.1; rw [if_neg hx] at this; exact this
          rw [if_neg hx, x0, y0, Int.toNat_zero, h0]
          show max 0 0 + mOf (o.getD j nd0).op = mOf (o.getD j nd0).op
          rw [Int.max_self, Int.zero_add]
/-- the depth of a canonical list -/
theorem depL_canT {t : Tr} (ht : trOk t) : (depL (canT t) []).getLastD 0 = depT t := by
  have hn : (canT t).length ≠ 0 := by simpa using canT_ne t
  have hl := dpL_len (canT t) (canT t).length (Nat.le_refl _)
  have e : dpL (canT t) (canT t).length = depL (canT t) [] := by unfold dpL; rw [List.take_length]
  have h := dep_tree (canT_ops ht) (canT t).length (Nat.le_refl _) ((canT t).length - 1) (by omega)
  rw [canT_tree ht] at h
  rw [← e, ← h, List.getLastD_eq_getLast?, List.getLast?_eq_getElem?, hl, List.getD_eq_getElem?_getD]
/-- what a subformula is -/
theorem subs_tree {f s : List Nd} (hs : s ∈ subsF f) : fErr f = 0 ∧ ∃ t r : Tr, trOk t ∧ compF f = canT t ∧ subT r t ∧ s = canT r ∧ fErr s = 0 ∧ compF s = s := by
  unfold subsF at hs
  obtain ⟨i, hi, rfl⟩ := List.mem_map.1 hs
  have hi := List.mem_range.1 hi
  have hz : fErr f = 0 := by
    by_cases h : fErr f = 0
    · exact h
    · unfold compF at hi; rw [if_neg h] at hi; simp at hi
  have h0 := compF_ok hz
  have hne : f.length ≠ 0 := by simpa using (fErr_ok hz).1
  have ht : trOk (treeAt f (f.length - 1)) := treeAt_ok (fErr_ops hz) _ _ (Nat.lt_succ_self _) (by omega)
  have hc := compF_tree hz
  have h200 := (fErr_ok h0).2.1
  have hsub : subT (treeAt (compF f) i) (treeAt f (f.length - 1)) := by
    have := hi
    rw [hc] at this ⊢
    exact canT_sub ht this
  have hr := subT_ok hsub ht
  have hlen : (canT (treeAt (compF f) i)).length ≤ 200 := by
    rcases canT_len ht hsub with e | e
    · rw [e, ← hc]; exact h200
    · rw [← hc] at e; omega
  have hok := canT_ok (fErr_ops h0) (fErr_fld h0) hi hlen
  rw [canon_take (fErr_ops h0) hi]
  refine ⟨hz, _, _, ht, hc, hsub, rfl, hok, ?_⟩
  have key : ∀ l : List Nd, fErr l = 0 → compF l = canonF l := fun l h => by unfold compF; rw [if_pos h]
  rw [key _ hok, canonF_canT hr]
theorem sub_depth {f s : List Nd} (hs : s ∈ subsF f) : depF s ≤ depF f := by
  obtain ⟨hz, t, r, ht, hc, hr, e, h1, h2⟩ := subs_tree hs
  unfold depF
  rw [if_pos hz, if_pos h1, h2, hc, e, depL_canT ht, depL_canT (subT_ok hr ht)]
  exact depT_sub hr
theorem cmpNs_self : ∀ l : List Nd, cmpNs l l = 0
  | [] => rfl
  | x :: l => by
    have h := cmpN_ord.anti x x
    have hx : cmpN x x = 0 := by omega
    show (if cmpN x x ≠ 0 then cmpN x x else cmpNs l l) = 0
    rw [hx, if_neg (by simp)]
    exact cmpNs_self l
theorem cmpF_self (f : List Nd) : cmpF f f = 0 := by have := cmpF_ord.anti f f; omega
theorem sub_cmp {f s : List Nd} (hs : s ∈ subsF f) : cmpF s f ≤ 0 := by
  obtain ⟨hz, t, r, ht, hc, hr, e, h1, h2⟩ := subs_tree hs
  unfold cmpF
  rw [h2, hc, e]
  rcases canT_len ht hr with e2 | e2
  · rw [e2, cmpNs_self]
    have : cmpI ((canT t).length : Int) ((canT t).length : Int) = 0 := by unfold cmpI; rw [if_neg (Int.lt_irrefl _), if_neg (Int.lt_irrefl _)]
    rw [this, if_neg (by simp)]
    exact Int.le_refl _
  · have : cmpI ((canT r).length : Int) ((canT t).length : Int) = -1 := by unfold cmpI; rw [if_pos (by omega)]
    rw [this, if_pos (by simp)]
    decide
theorem maskL_bit (g : Nd → Nat) (b : Nat) : ∀ (l : List Nd), (maskL g l).testBit b = true ↔ ∃ n ∈ l, (g n).testBit b = true := by
  have key : ∀ (l : List Nd) (a : Nat), (l.foldl (fun m n => m ||| g n) a).testBit b = true ↔ a.testBit b = true ∨ ∃ n ∈ l, (g n).testBit b = true := by
    intro l
    induction l with
    | nil => intro a; simp
    | cons n l ih =>
      intro a
      rw [List.foldl_cons, ih, Nat.testBit_or, Bool.or_eq_true]
      simp only [List.mem_cons, exists_eq_or_imp, or_assoc]
  intro l
  unfold maskL
  rw [key l 0]
  simp
theorem sub_frags {f s : List Nd} (hs : s ∈ subsF f) {b : Nat} (h : (maskL fragD (compF s)).testBit b = true) : (maskL fragD (compF f)).testBit b = true := by
  obtain ⟨hz, t, r, ht, hc, hr, e, h1, h2⟩ := subs_tree hs
  rw [h2, e] at h
  rw [hc]
  obtain ⟨n, hn, hb⟩ := (maskL_bit _ _ _).1 h
  obtain ⟨m, hm, ho⟩ := canT_op ht hr hn
  refine (maskL_bit _ _ _).2 ⟨m, hm, ?_⟩
  unfold fragD at hb ⊢
  rw [ho]; exact hb
/-- what lies in a mask and not outside another -/
theorem andNot_sub (a b : Nat) (h : ∀ i, a.testBit i = true → b.testBit i = true) : bits .andNot .i64 (a : Int) (b : Int) = 0 := by
  show IntKind.i64.wrap ((BitVec.ofInt 64 (a : Int) &&& ~~~BitVec.ofInt 64 (b : Int)).toNat : Int) = 0
  have e : BitVec.ofInt 64 (a : Int) &&& ~~~BitVec.ofInt 64 (b : Int) = 0#64 := by
    rw [BitVec.ofInt_natCast, BitVec.ofInt_natCast]
    apply BitVec.eq_of_getLsbD_eq
    intro i hi
    rw [BitVec.getLsbD_and, BitVec.getLsbD_not, BitVec.getLsbD_ofNat, BitVec.getLsbD_ofNat, BitVec.getLsbD_zero, decide_eq_true hi]
    have := h i
    cases ha : a.testBit i with
    | false => rfl
    | true => rw [this ha]; rfl
  rw [e]; rfl
end Go.Proofs.YthhkeobjjeldhaaDoor
/- Layer 5: what building means for trees; every formula is built from its operands. -/
namespace Go.Proofs.YthhkeobjjeldhaaDoor
open Go.RowKit Go.Proofs.Ws Go.Maps
theorem bare_shift (s : Nat) (n : Nd) : bare (shiftN s n) = bare n := rfl
/-- a list that stands behind another one keeps its trees -/
theorem treeAt_app {l f : List Nd} (h : opsL (l ++ f.map (shiftN l.length))) (hf : opsL f) : ∀ (k i : Nat), i < k → i < f.length → treeAt (l ++ f.map (shiftN l.length)) (l.length + i) = treeAt f i := by
  intro k
  induction k with
  | zero => intro i h; omega
  | succ k ih =>
    intro i hk hi
    have ho := hf i hi
    have hlen : l.length + i < (l ++ f.map (shiftN l.length)).length := by rw [List.length_append, List.length_map]; omega
    have hg : (l ++ f.map (shiftN l.length)).getD (l.length + i) nd0 = shiftN l.length (f.getD i nd0) := by
      rw [List.getD_eq_getElem?_getD, List.getElem?_append_right (by omega), show l.length + i - l.length = i from by omega, List.getElem?_map]
      simp [hi]
    rw [treeAt_eq h hlen, treeAt_eq hf hi, hg, bare_shift]
    have hop : (shiftN l.length (f.getD i nd0)).op = (f.getD i nd0).op := rfl
    rw [hop]
    by_cases hy : usesY (f.getD i nd0).op = true
    · rw [if_pos hy, if_pos hy]
      have hx := usesY_X hy
      have h1 := opsOk_x ho hx
      have h2 := opsOk_y ho hy
      have e1 : (shiftN l.length (f.getD i nd0)).x.toNat = l.length + (f.getD i nd0).x.toNat := by
        show (if usesX (f.getD i nd0).op = true then (f.getD i nd0).x + (l.length : Int) else _).toNat = _
        rw [if_pos hx]; omega
      have e2 : (shiftN l.length (f.getD i nd0)).y.toNat = l.length + (f.getD i nd0).y.toNat := by
        show (if usesY (f.getD i nd0).op = true then (f.getD i nd0).y + (l.length : Int) else _).toNat = _
        rw [if_pos hy]; omega
      rw [e1, e2, ih _ (by omega) (by omega), ih _ (by omega) (by omega)]
    · rw [if_neg hy, if_neg hy]
      by_cases hx : usesX (f.getD i nd0).op = true
      · rw [if_pos hx, if_pos hx]
        have h1 := opsOk_x ho hx
        have e1 : (shiftN l.length (f.getD i nd0)).x.toNat = l.length + (f.getD i nd0).x.toNat := by
          show (if usesX (f.getD i nd0).op = true then (f.getD i nd0).x + (l.length : Int) else _).toNat = _
          rw [if_pos hx]; omega
        rw [e1, ih _ (by omega) (by omega)]
      · rw [if_neg hx, if_neg hx]
theorem treeAt_left {l r : List Nd} (h : opsL (l ++ r)) {i : Nat} (hi : i < l.length) : treeAt (l ++ r) i = treeAt l i := by
  have := treeAt_take h l.length (i + 1) i (by omega) hi (by rw [List.length_append]; omega)
  rw [List.take_left] at this
  exact this.symm
/-- the tree of a formula -/
def treeOf (f : List Nd) : Tr := treeAt f (f.length - 1)
def shortT (t : Tr) : List Nd := if 200 < (canT t).length then [] else canT t
theorem treeOf_snoc {l : List Nd} {n : Nd} (h : opsL (l ++ [n])) : treeOf (l ++ [n]) = (if usesY n.op = true then .bin (bare n) (treeAt l n.x.toNat) (treeAt l n.y.toNat) else if usesX n.op = true then .un (bare n) (treeAt l n.x.toNat) else .leaf (bare n)) := by
  unfold treeOf
  have hl : (l ++ [n]).length - 1 = l.length := by simp
  have hg : (l ++ [n]).getD l.length nd0 = n := getD_some (by simp)
  have ho := h l.length (by simp)
  rw [hg] at ho
  rw [hl, treeAt_eq h (by simp), hg]
  by_cases hy : usesY n.op = true
  · rw [if_pos hy, if_pos hy]
    have h1 := opsOk_x ho (usesY_X hy)
    have h2 := opsOk_y ho hy
    rw [treeAt_left h h1.2, treeAt_left h h2.2]
  · rw [if_neg hy, if_neg hy]
    by_cases hx : usesX n.op = true
    · rw [if_pos hx, if_pos hx]
      have h1 := opsOk_x ho hx
      rw [treeAt_left h h1.2]
    · rw [if_neg hx, if_neg hx]
theorem build_leaf {n : Nd} (hk : known n.op = true) (hc : cleanN n) (hr : rangeOk n = true) (hb : bare n = n) (hux : usesX n.op = false) : buildF n [] = canT (.leaf n) := by
  obtain ⟨hx, hy⟩ := bare_x hb
  rw [buildF_one hk hc hx hy hux]
  have huy : usesY n.op = false := by
    cases h : usesY n.op with
    | false => rfl
    | true => have := usesY_X h; rw [hux] at this; cases this
  have ho : opsOk n 0 := ⟨by rw [if_neg (by rw [hux]; decide)]; exact hx, by rw [if_neg (by rw [huy]; decide)]; exact hy⟩
  have hn : nodeErr n 0 = 0 ↔ rangeOk n = true := node_build (n' := n) hk hc ho rfl rfl rfl rfl
  unfold oneF
  rw [if_pos (hn.2 hr)]
  simp [canT, finT, putNd]
theorem build_un {n : Nd} {f : List Nd} (hk : known n.op = true) (hc : cleanN n) (hr : rangeOk n = true) (hb : bare n = n) (hux : usesX n.op = true) (huy : usesY n.op = false) (hf : fErr f = 0) : buildF n [f] = shortT (.un n (treeOf f)) := by
  obtain ⟨hx, hy⟩ := bare_x hb
  have hne : f.length ≠ 0 := by simpa using (fErr_ok hf).1
  have hok := (fin_1 n f hk hc hy hux huy hr (by intro g hg; simp at hg; rw [hg]; exact hf)).1
  have e : catKn [f] [f].length = f := by simp [catKn, catS, map_shift0]
  rw [e] at hok
  unfold buildF
  rw [if_neg (by rw [hr]; decide), if_neg (by simp [hf])]
  have e2 : catS [f] [] = f := by simp [catS, map_shift0]
  rw [e2]
  have hcan : canonF (f ++ [lastN n [f]]) = canT (.un n (treeOf f)) := by
    rw [canonF_tree hok.ops hok.ne]
    show canT (treeOf (f ++ [lastN n [f]])) = _
    rw [treeOf_snoc hok.ops]
    have ho : (lastN n [f]).op = n.op := rfl
    rw [ho, if_neg (by rw [huy]; decide), if_pos hux]
    have hbx : bare (lastN n [f]) = n := by rw [← hb]; rfl
    have hxx : (lastN n [f]).x.toNat = f.length - 1 := by show ((f.length : Int) - 1).toNat = _; omega
    rw [hbx, hxx]; rfl
  rw [hcan]; rfl
theorem build_bin {n : Nd} {f g : List Nd} (hk : known n.op = true) (hc : cleanN n) (hr : rangeOk n = true) (hb : bare n = n) (hux : usesX n.op = true) (huy : usesY n.op = true) (hf : fErr f = 0) (hg : fErr g = 0) : buildF n [f, g] = shortT (.bin n (treeOf f) (treeOf g)) := by
  have hne : f.length ≠ 0 := by simpa using (fErr_ok hf).1
  have hne2 : g.length ≠ 0 := by simpa using (fErr_ok hg).1
  have hok := (fin_2 n f g hk hc hux huy hr (by intro h hh; simp at hh; rcases hh with rfl | rfl <;> assumption)).1
  have e : catKn [f, g] [f, g].length = f ++ g.map (shiftN f.length) := by simp [catKn, catS, map_shift0]
  rw [e] at hok
  unfold buildF
  rw [if_neg (by rw [hr]; decide), if_neg (by simp [hf, hg])]
  have e2 : catS [f, g] [] = f ++ g.map (shiftN f.length) := by simp [catS, map_shift0]
  rw [e2]
  obtain ⟨hol, _⟩ := catL_ok hf hg
  have hcan : canonF (f ++ g.map (shiftN f.length) ++ [lastN n [f, g]]) = canT (.bin n (treeOf f) (treeOf g)) := by
    rw [canonF_tree hok.ops hok.ne]
    show canT (treeOf (f ++ g.map (shiftN f.length) ++ [lastN n [f, g]])) = _
    rw [treeOf_snoc hok.ops]
    have ho : (lastN n [f, g]).op = n.op := rfl
    rw [ho, if_pos huy]
    have hbx : bare (lastN n [f, g]) = n := by rw [← hb]; rfl
    have hxx : (lastN n [f, g]).x.toNat = f.length - 1 := by show ((f.length : Int) - 1).toNat = _; omega
    have hyy : (lastN n [f, g]).y.toNat = f.length + (g.length - 1) := by show ((f.length + g.length : Int) - 1).toNat = _; omega
    rw [hbx, hxx, hyy, treeAt_left hol (by omega), treeAt_app hol (fErr_ops hg) _ _ (Nat.lt_succ_self _) (by omega)]
    rfl
  rw [hcan]; rfl
/-- a node of a formula, without its operands, is that of the law -/
theorem clean_bare {n : Nd} (h : fldOk n) : cleanP n.op n.i n.e n.g = bare n := by
  obtain ⟨_, ⟨h1, h2, h3⟩, _⟩ := h
  unfold cleanP bare
  have e1 : (if (decide (n.op = 3) || hasAgent n.op || decide (n.op = 17)) = true then n.i else 0) = n.i := by
    split
    · rfl
    · rename_i hh
      simp only [Bool.or_eq_true, decide_eq_true_eq, not_or] at hh
      rcases h1 with a | a | a | a
      · exact absurd a hh.1.1
      · exact absurd a hh.1.2
      · exact absurd a hh.2
      · exact a.symm
  have e2 : (if n.op = 17 then n.e else 0) = n.e := by
    split
    · rfl
    · rename_i hh
      rcases h2 with a | a
      · exact absurd a hh
      · exact a.symm
  have e3 : (if hasGroup n.op = true then n.g else 0) = n.g := by
    split
    · rfl
    · rename_i hh
      rcases h3 with a | a
      · exact absurd a hh
      · exact a.symm
  rw [e1, e2, e3]
theorem subT_un {n : Nd} {a : Tr} : subT a (.un n a) := Or.inr (subT_refl a)
theorem subT_bin1 {n : Nd} {a b : Tr} : subT a (.bin n a b) := Or.inr (Or.inl (subT_refl a))
theorem subT_bin2 {n : Nd} {a b : Tr} : subT b (.bin n a b) := Or.inr (Or.inr (subT_refl b))
/-- a subformula in canonical form is what the constructor of its last operator makes of its operands -/
theorem rebuild {s : List Nd} {r : Tr} (hr : trOk r) (hs : s = canT r) (hz : fErr s = 0) :
    partsF (s.getD (s.length - 1) nd0).op (s.getD (s.length - 1) nd0).i (s.getD (s.length - 1) nd0).e (s.getD (s.length - 1) nd0).g
      (if usesX (s.getD (s.length - 1) nd0).op = true then subF s (s.getD (s.length - 1) nd0).x else []) (if usesY (s.getD (s.length - 1) nd0).op = true then subF s (s.getD (s.length - 1) nd0).y else []) = s := by
  have hne : s.length ≠ 0 := by simpa using (fErr_ok hz).1
  have h200 := (fErr_ok hz).2.1
  have hi : s.length - 1 < s.length := by omega
  have hops := fErr_ops hz
  have ho := hops _ hi
  have hfld := fErr_fld hz _ (getD_mem hi)
  have htr : treeAt s (s.length - 1) = r := by rw [hs]; exact canT_tree hr
  have hte := treeAt_eq hops hi
  rw [htr] at hte
  generalize s.getD (s.length - 1) nd0 = n at *
  have hcl := clean_bare hfld
  have hkn := hfld.1
  have hcn : cleanN (bare n) := hfld.2.1
  have hrg : rangeOk (bare n) = true := hfld.2.2
  have hbb : bare (bare n) = bare n := rfl
  -- a subformula at an operand
  have hsub : ∀ z : Int, 0 ≤ z → z.toNat < s.length → subT (treeAt s z.toNat) r → fErr (subF s z) = 0 ∧ treeOf (subF s z) = treeAt s z.toNat := by
    intro z h0 h1 h2
    have e1 : subF s z = canT (treeAt s z.toNat) := by
      have := subF_tree hz h1
      rw [show ((z.toNat : Nat) : Int) = z from by omega] at this
      exact this
    have hl : (canT (treeAt s z.toNat)).length ≤ 200 := by
      rcases canT_len hr h2 with e | e
      · rw [e, ← hs]; exact h200
      · rw [← hs] at e; omega
    rw [e1]
    exact ⟨canT_ok hops (fErr_fld hz) h1 hl, canT_tree (subT_ok h2 hr)⟩
  have hshort : shortT r = s := by unfold shortT; rw [← hs, if_neg (by omega)]
  unfold partsF
  rw [hcl]
  by_cases hy : usesY n.op = true
  · have hx := usesY_X hy
    rw [if_pos hy] at hte
    have h1 := opsOk_x ho hx
    have h2 := opsOk_y ho hy
    obtain ⟨a1, a2⟩ := hsub n.x h1.1 (by omega) (by rw [hte]; exact subT_bin1)
    obtain ⟨b1, b2⟩ := hsub n.y h2.1 (by omega) (by rw [hte]; exact subT_bin2)
    rw [if_pos hy, if_pos hx, if_pos hy, build_bin (n := bare n) hkn hcn hrg hbb hx hy a1 b1, a2, b2, ← hte, hshort]
  · have hy2 : usesY n.op = false := by simpa using hy
    rw [if_neg hy] at hte
    by_cases hx : usesX n.op = true
    · rw [if_pos hx] at hte
      have h1 := opsOk_x ho hx
      obtain ⟨a1, a2⟩ := hsub n.x h1.1 (by omega) (by rw [hte]; exact subT_un)
      rw [if_neg hy, if_pos hx, if_pos hx, build_un (n := bare n) hkn hcn hrg hbb hx hy2 a1, a2, ← hte, hshort]
    · have hx2 : usesX n.op = false := by simpa using hx
      rw [if_neg hx] at hte
      rw [if_neg hy, if_neg hx, build_leaf (n := bare n) hkn hcn hrg hbb hx2, ← hte, ← hs]
end Go.Proofs.YthhkeobjjeldhaaDoor
/- Layer 6 as plain mathematics: texts joined by an operator. -/
namespace Go.Proofs.Ws
open Go
theorem six_tok : ∀ p ∈ signs2, IsTok p.1.data.toList := by
  intro p hp
  simp only [signs2, List.mem_cons, List.not_mem_nil, or_false] at hp
  rcases hp with rfl | rfl | rfl | rfl | rfl | rfl
  · exact ⟨38, [], rfl, by decide, by decide⟩
  · exact ⟨124, [], rfl, by decide, by decide⟩
  · exact ⟨45, [62], rfl, by decide, by decide⟩
  · exact ⟨60, [45, 62], rfl, by decide, by decide⟩
  · exact ⟨117, [110, 116, 105, 108], rfl, by decide, by decide⟩
  · exact ⟨115, [105, 110, 99, 101], rfl, by decide, by decide⟩
def joinT (a b sg : ByteArray) : ByteArray := ⟨#[40]⟩ ++ a ++ ⟨#[41]⟩ ++ sg ++ ⟨#[40]⟩ ++ b ++ ⟨#[41]⟩
theorem joinT_list (a b sg : ByteArray) : (joinT a b sg).data.toList = 40 :: (a.data.toList ++ 41 :: (sg.data.toList ++ 40 :: (b.data.toList ++ 41 :: []))) := by
  unfold joinT
  simp only [bapp, List.append_assoc]
  rfl
theorem join_tok {a b sg : ByteArray} {op : Int} (hm : (sg, op) ∈ signs2) (ha : (tokV a).err = 0) (hb : (tokV b).err = 0) (hs : (joinT a b sg).size ≤ 4000) :
    (tokV (joinT a b sg)).err = 0 ∧ (tokV (joinT a b sg)).words = joinW (tokV a).words (tokV b).words sg := by
  refine tokV_W ?_ hs
  rw [joinT_list]
  have h := TokW.word (w := sg.data.toList) (six_tok _ hm) (brk_mark (r := b.data.toList ++ 41 :: []) (by decide)) (TokW.paren (W_tokV hb).1 TokW.nil)
  have e : (⟨sg.data.toList.toArray⟩ : ByteArray) = sg := by simp
  rw [e] at h
  exact TokW.paren (W_tokV ha).1 h
theorem signs_size {sg : ByteArray} {op : Int} (hm : (sg, op) ∈ signs2) : sg.size ≤ 5 := by
  simp only [signs2, List.mem_cons, Prod.mk.injEq, List.not_mem_nil, or_false] at hm
  rcases hm with ⟨rfl, rfl⟩ | ⟨rfl, rfl⟩ | ⟨rfl, rfl⟩ | ⟨rfl, rfl⟩ | ⟨rfl, rfl⟩ | ⟨rfl, rfl⟩ <;> decide
end Go.Proofs.Ws
namespace Go.Proofs.YthhkeobjjeldhaaDoor
open Go.RowKit Go.Proofs.Ws Go.Maps
theorem treeOf_canT {t : Tr} (h : trOk t) : treeOf (canT t) = t := canT_tree h
structure BinN (n : Nd) : Prop where
  kn : known n.op = true
  cl : cleanN n
  rg : rangeOk n = true
  br : bare n = n
  ux : usesX n.op = true
  uy : usesY n.op = true
theorem six_bin {sg : ByteArray} {op : Int} (hm : (sg, op) ∈ signs2) : BinN (nd1 op) := by
  simp only [signs2, List.mem_cons, Prod.mk.injEq, List.not_mem_nil, or_false] at hm
  rcases hm with ⟨rfl, rfl⟩ | ⟨rfl, rfl⟩ | ⟨rfl, rfl⟩ | ⟨rfl, rfl⟩ | ⟨rfl, rfl⟩ | ⟨rfl, rfl⟩ <;>
    exact ⟨by decide, ⟨by decide, by decide, by decide⟩, by decide, by decide, by decide, by decide⟩
theorem canT_bin_le {n : Nd} {ta tb : Tr} (hn : BinN n) (ha : fErr (canT ta) = 0) (hb : fErr (canT tb) = 0) (hta : trOk ta) (htb : trOk tb) : (canT (.bin n ta tb)).length ≤ (canT ta).length + (canT tb).length + 1 := by
  have hne : (canT ta).length ≠ 0 := by simpa using (fErr_ok ha).1
  have hok := (fin_2 n (canT ta) (canT tb) hn.kn hn.cl hn.ux hn.uy hn.rg (by intro h hh; simp at hh; rcases hh with rfl | rfl <;> assumption)).1
  have e : catKn [canT ta, canT tb] [canT ta, canT tb].length = canT ta ++ (canT tb).map (shiftN (canT ta).length) := by simp [catKn, catS, map_shift0]
  rw [e] at hok
  obtain ⟨hol, _⟩ := catL_ok ha hb
  have hcan : canonF (canT ta ++ (canT tb).map (shiftN (canT ta).length) ++ [lastN n [canT ta, canT tb]]) = canT (.bin n ta tb) := by
    rw [canonF_tree hok.ops hok.ne]
    show canT (treeOf (canT ta ++ (canT tb).map (shiftN (canT ta).length) ++ [lastN n [canT ta, canT tb]])) = _
    rw [treeOf_snoc hok.ops]
    have hne2 : (canT tb).length ≠ 0 := by simpa using (fErr_ok hb).1
    have ho : (lastN n [canT ta, canT tb]).op = n.op := rfl
    rw [ho, if_pos hn.uy]
    have hbx : bare (lastN n [canT ta, canT tb]) = n := by
      have := hn.br
      rw [← this]; rfl
    have hxx : (lastN n [canT ta, canT tb]).x.toNat = (canT ta).length - 1 := by show (((canT ta).length : Int) - 1).toNat = _; omega
    have hyy : (lastN n [canT ta, canT tb]).y.toNat = (canT ta).length + ((canT tb).length - 1) := by show (((canT ta).length + (canT tb).length : Int) - 1).toNat = _; omega
    rw [hbx, hxx, hyy, treeAt_left hol (by omega), treeAt_app hol (fErr_ops hb) _ _ (Nat.lt_succ_self _) (by omega), canT_tree hta, canT_tree htb]
  rw [← hcan, canonF_tree hok.ops hok.ne]
  have hlen : (canT ta ++ (canT tb).map (shiftN (canT ta).length) ++ [lastN n [canT ta, canT tb]]).length = (canT ta).length + (canT tb).length + 1 := by simp; omega
  have := finW_out_le hok.ops ((canT ta ++ (canT tb).map (shiftN (canT ta).length) ++ [lastN n [canT ta, canT tb]]).length - 1) (by omega)
  omega
theorem build_tree2 {n : Nd} {ta tb : Tr} (hn : BinN n) (ha : fErr (canT ta) = 0) (hb : fErr (canT tb) = 0) (hta : trOk ta) (htb : trOk tb) : buildF n [canT ta, canT tb] = shortT (.bin n ta tb) := by
  rw [build_bin hn.kn hn.cl hn.rg hn.br hn.ux hn.uy ha hb, treeOf_canT hta, treeOf_canT htb]
theorem buildF_len6 (n : Nd) (fs : List (List Nd)) : (buildF n fs).length ≤ 200 := by
  unfold buildF
  repeat' split
  all_goals first | omega | exact Nat.zero_le _
/-- what the law ParserJoins says -/
theorem join_parse {A F X : List ByteArray} {a b sg : ByteArray} {op : Int} (hm : (sg, op) ∈ signs2) (hsa : a.size ≤ 200) (hsb : b.size ≤ 200) (ha : (parseV A F X a).err = 0) (hb : (parseV A F X b).err = 0) :
    ((parseV A F X (joinT a b sg)).err = 8 ∧ 200 ≤ (parseV A F X a).nodes.length + (parseV A F X b).nodes.length) ∨
    ((parseV A F X (joinT a b sg)).err = 0 ∧ sameF (parseV A F X (joinT a b sg)).nodes (buildF (nd1 op) [(parseV A F X a).nodes, (parseV A F X b).nodes]) = true) := by
  obtain ⟨hg, ht1, _, ta, r1, n1, l1, k1⟩ := parseV_ok ha
  obtain ⟨_, ht2, _, tb, r2, n2, l2, k2⟩ := parseV_ok hb
  have hz := signs_size hm
  have e1 : (⟨#[40]⟩ : ByteArray).size = 1 := rfl
  have e2 : (⟨#[41]⟩ : ByteArray).size = 1 := rfl
  have hsz : (joinT a b sg).size ≤ 4000 := by
    unfold joinT
    simp only [ByteArray.size_append]
    omega
  obtain ⟨h1, h2⟩ := join_tok hm ht1 ht2 hsz
  have hR := Runs.join hm r1 r2
  have hn := six_bin hm
  obtain ⟨f1, _⟩ := tok_formula k1 l1
  obtain ⟨f2, _⟩ := tok_formula k2 l2
  rw [n1, n2]
  by_cases hl : (canT (.bin (nd1 op) ta tb)).length ≤ 200
  · refine .inr ?_
    have hp := parseV_tree (t := .bin (nd1 op) ta tb) hg h1 (by rw [h2]; exact hR) hl
    have h0 : (parseV A F X (joinT a b sg)).err = 0 := by rw [hp]
    obtain ⟨_, _, _, q1, _, q2⟩ := parseV_fits h0
    rw [build_tree2 hn f1 f2 k1.1 k2.1]
    refine ⟨h0, ?_⟩
    rw [hp] at q1 q2 ⊢
    unfold shortT
    rw [if_neg (by omega)]
    unfold sameF
    exact decide_eq_true ⟨q1, q1, rfl⟩
  · refine .inl ⟨parseV_limit hg h1 (by rw [h2]; exact hR) (by omega), ?_⟩
    have := canT_bin_le hn f1 f2 k1.1 k2.1
    omega
end Go.Proofs.YthhkeobjjeldhaaDoor
/- Layer 6 as plain mathematics: operators with one operand bind closely. -/
namespace Go.Proofs.Ws
open Go
/-- how a prefix is read: the tokens u ahead of an operand give the node n above it -/
def Pre1 (A F X : List ByteArray) (u : List ByteArray) (n : Nd) : Prop :=
  ∀ (v : List ByteArray) (t : Tr) (q : Nat), Runs ⟨A, F, X, u ++ v⟩ .pre u.length t q → Runs ⟨A, F, X, u ++ v⟩ .pre 0 (.un n t) q
theorem runT_pre (E : PEnv) (n p : Nat) : runT E (n + 1) .pre p =
    (let w := tkT E p
    let un := fun (nd : Nd) (p : Nat) => tbind (runT E n .pre p) fun x p => some (.ok (.un nd x) p)
    let ag := fun (op : Int) => expectT E ⟨#[91]⟩ (p + 1) fun p => nbind (some (nameP E 1 ⟨p, []⟩)) fun a p => expectT E ⟨#[93]⟩ p fun p => un ⟨op, a, 0, 0, 0, 0⟩ p
    let gr := fun (op : Int) => expectT E ⟨#[91]⟩ (p + 1) fun p => nbind (some (nameP E 1 ⟨p, []⟩)) fun a p => nbind (agentsL E (E.ws.length + 1) (2 ^ a) ⟨p, []⟩) fun g p => expectT E ⟨#[93]⟩ p fun p => un ⟨op, 0, 0, g, 0, 0⟩ p
    let bar := fun (p : Nat) (k : Tr → Nat → Option TRes) => if tkT E p = ⟨#[124]⟩ then tbind (runT E n .formula (p + 1)) k else k (.leaf (nd1 1)) p
    let two := fun (nd : Nd) (c : Tr) (p : Nat) => expectT E ⟨#[93]⟩ p fun p => tbind (runT E n .pre p) fun x p => some (.ok (.bin nd c x) p)
    if w = ⟨#[126]⟩ then un (nd1 4) (p + 1) else if w = ⟨#[110, 101, 120, 116]⟩ then un (nd1 18) (p + 1) else if w = ⟨#[112, 114, 101, 118]⟩ then un (nd1 20) (p + 1)
    else if w = ⟨#[75]⟩ then ag 9 else if w = ⟨#[77]⟩ then ag 10 else if w = ⟨#[83]⟩ then ag 15
    else if w = ⟨#[66]⟩ then expectT E ⟨#[91]⟩ (p + 1) fun p => nbind (some (nameP E 1 ⟨p, []⟩)) fun a p => bar p fun c p => two ⟨14, a, 0, 0, 0, 0⟩ c p
    else if w = ⟨#[69]⟩ then gr 11 else if w = ⟨#[68]⟩ then gr 12
    else if w = ⟨#[67]⟩ then expectT E ⟨#[91]⟩ (p + 1) fun p => nbind (some (nameP E 1 ⟨p, []⟩)) fun a p => nbind (agentsL E (E.ws.length + 1) (2 ^ a) ⟨p, []⟩) fun g p => bar p fun c p => two ⟨13, 0, 0, g, 0, 0⟩ c p
    else if w = ⟨#[91]⟩ then
      if tkT E (p + 1) = ⟨#[33]⟩ then tbind (runT E n .formula (p + 1 + 1)) fun c p => two (nd1 16) c p
      else nbind (some (nameP E 2 ⟨p + 1, []⟩)) fun a p => expectT E ⟨#[46]⟩ p fun p => nbind (some (numberP E ⟨p, []⟩)) fun e p => expectT E ⟨#[93]⟩ p fun p => un ⟨17, a, e, 0, 0, 0⟩ p
    else if w = ⟨#[116, 114, 117, 101]⟩ then some (.ok (.leaf (nd1 1)) (p + 1)) else if w = ⟨#[102, 97, 108, 115, 101]⟩ then some (.ok (.leaf (nd1 2)) (p + 1))
    else if w = ⟨#[40]⟩ then tbind (runT E n .formula (p + 1)) fun x p => expectT E ⟨#[41]⟩ p fun p => some (.ok x p)
    else nbind (some (nameP E 0 ⟨p, []⟩)) fun a p => some (.ok (.leaf ⟨3, a, 0, 0, 0, 0⟩) p)) := rfl
theorem pre1_plain (A F X : List ByteArray) {w : ByteArray} {op : Int} (hw : (w = ⟨#[126]⟩ ∧ op = 4) ∨ (w = ⟨#[110, 101, 120, 116]⟩ ∧ op = 18) ∨ (w = ⟨#[112, 114, 101, 118]⟩ ∧ op = 20)) : Pre1 A F X [w] (nd1 op) := by
  intro v t q ⟨n, hn⟩
  have hc : tkT ⟨A, F, X, [w] ++ v⟩ 0 = w := rfl
  have hn' : runT ⟨A, F, X, [w] ++ v⟩ n .pre (0 + 1) = some (.ok t q) := hn
  refine ⟨n + 1, ?_⟩
  rw [runT_pre]
  dsimp only
  rw [hc]
  rcases hw with ⟨rfl, rfl⟩ | ⟨rfl, rfl⟩ | ⟨rfl, rfl⟩
  · rw [if_pos rfl, hn']; rfl
  · rw [if_neg (by decide), if_pos rfl, hn']; rfl
  · rw [if_neg (by decide), if_neg (by decide), if_pos rfl, hn']; rfl
theorem name_at (A F X ws : List ByteArray) (p a : Nat) (w : ByteArray) (h : ws.getD p ByteArray.empty = w) (ho : nameOk w = true) (hi : Lib.idxOfS A w = (a : Int)) : nameP ⟨A, F, X, ws⟩ 1 ⟨p, []⟩ = .ok a ⟨p + 1, []⟩ := by
  have ht : tkP ⟨A, F, X, ws⟩ ⟨p, []⟩ = w := h
  unfold nameP
  rw [ht, if_neg (by rw [ho]; decide)]
  show (if Lib.idxOfS A w < 0 then PRes.err p 5 else PRes.ok (Lib.idxOfS A w).toNat ⟨p + 1, []⟩) = _
  rw [hi, if_neg (by omega), Int.toNat_natCast]
theorem pre1_agent (A F X : List ByteArray) {w c : ByteArray} {op : Int} {a : Nat} (hw : (w = ⟨#[75]⟩ ∧ op = 9) ∨ (w = ⟨#[77]⟩ ∧ op = 10) ∨ (w = ⟨#[83]⟩ ∧ op = 15)) (ho : nameOk c = true) (hi : Lib.idxOfS A c = (a : Int)) :
    Pre1 A F X [w, ⟨#[91]⟩, c, ⟨#[93]⟩] ⟨op, a, 0, 0, 0, 0⟩ := by
  intro v t q ⟨n, hn⟩
  have hc : tkT ⟨A, F, X, [w, ⟨#[91]⟩, c, ⟨#[93]⟩] ++ v⟩ 0 = w := rfl
  have h1 : tkT ⟨A, F, X, [w, ⟨#[91]⟩, c, ⟨#[93]⟩] ++ v⟩ (0 + 1) = ⟨#[91]⟩ := rfl
  have h2 := name_at A F X ([w, ⟨#[91]⟩, c, ⟨#[93]⟩] ++ v) 2 a c rfl ho hi
  have h3 : tkT ⟨A, F, X, [w, ⟨#[91]⟩, c, ⟨#[93]⟩] ++ v⟩ (2 + 1) = ⟨#[93]⟩ := rfl
  have hn' : runT ⟨A, F, X, [w, ⟨#[91]⟩, c, ⟨#[93]⟩] ++ v⟩ n .pre (2 + 1 + 1) = some (.ok t q) := hn
  have key : ∀ op' : Int, (expectT ⟨A, F, X, [w, ⟨#[91]⟩, c, ⟨#[93]⟩] ++ v⟩ ⟨#[91]⟩ (0 + 1) fun p => nbind (some (nameP ⟨A, F, X, [w, ⟨#[91]⟩, c, ⟨#[93]⟩] ++ v⟩ 1 ⟨p, []⟩)) fun a p => expectT ⟨A, F, X, [w, ⟨#[91]⟩, c, ⟨#[93]⟩] ++ v⟩ ⟨#[93]⟩ p fun p => tbind (runT ⟨A, F, X, [w, ⟨#[91]⟩, c, ⟨#[93]⟩] ++ v⟩ n .pre p) fun x p => some (.ok (.un ⟨op', a, 0, 0, 0, 0⟩ x) p)) = some (.ok (.un ⟨op', a, 0, 0, 0, 0⟩ t) q) := by
    intro op'
    unfold expectT
    rw [h1, if_pos rfl]
    have h2' : nameP ⟨A, F, X, [w, ⟨#[91]⟩, c, ⟨#[93]⟩] ++ v⟩ 1 ⟨0 + 1 + 1, []⟩ = .ok a ⟨2 + 1, []⟩ := h2
    dsimp only
    rw [h2']
    change (if tkT ⟨A, F, X, [w, ⟨#[91]⟩, c, ⟨#[93]⟩] ++ v⟩ (2 + 1) = ⟨#[93]⟩ then tbind (runT ⟨A, F, X, [w, ⟨#[91]⟩, c, ⟨#[93]⟩] ++ v⟩ n .pre (2 + 1 + 1)) (fun x p => some (TRes.ok (.un ⟨op', a, 0, 0, 0, 0⟩ x) p)) else some (.err (2 + 1) 4)) = _
    rw [h3, if_pos rfl, hn']
    rfl
  refine ⟨n + 1, ?_⟩
  rw [runT_pre]
  dsimp only
  rw [hc]
  rcases hw with ⟨rfl, rfl⟩ | ⟨rfl, rfl⟩ | ⟨rfl, rfl⟩
  · rw [if_neg (by decide), if_neg (by decide), if_neg (by decide), if_pos rfl]; exact key 9
  · rw [if_neg (by decide), if_neg (by decide), if_neg (by decide), if_neg (by decide), if_pos rfl]; exact key 10
  · rw [if_neg (by decide), if_neg (by decide), if_neg (by decide), if_neg (by decide), if_neg (by decide), if_pos rfl]; exact key 15
theorem runs_fact (A F X ws : List ByteArray) (p a : Nat) (w : ByteArray) (h : ws.getD p ByteArray.empty = w) (hw : w = ⟨#[112]⟩) (hi : Lib.idxOfS F w = (a : Int)) : Runs ⟨A, F, X, ws⟩ .pre p (.leaf ⟨3, a, 0, 0, 0, 0⟩) (p + 1) := by
  have ht : tkT ⟨A, F, X, ws⟩ p = w := h
  have hp : nameP ⟨A, F, X, ws⟩ 0 ⟨p, []⟩ = .ok a ⟨p + 1, []⟩ := by
    have ht : tkP ⟨A, F, X, ws⟩ ⟨p, []⟩ = w := h
    unfold nameP
    rw [ht, if_neg (by rw [hw]; decide)]
    show (if Lib.idxOfS F w < 0 then PRes.err p 5 else PRes.ok (Lib.idxOfS F w).toNat ⟨p + 1, []⟩) = _
    rw [hi, if_neg (by omega), Int.toNat_natCast]
  refine ⟨1, ?_⟩
  rw [runT_pre]
  dsimp only
  rw [ht, hp, hw]
  repeat rw [if_neg (by decide)]
  rfl
/-- the tokens of the law's texts: a prefix, a text in parentheses, & p -/
def preW (u ws : List ByteArray) : List ByteArray := u ++ ⟨#[40]⟩ :: (ws ++ ⟨#[41]⟩ :: [⟨#[38]⟩, ⟨#[112]⟩])
theorem Runs.prefix_and {A F X u ws : List ByteArray} {n : Nd} {t : Tr} {k : Nat} (hu : Pre1 A F X u n) (h : Runs ⟨A, F, X, ws⟩ .formula 0 t ws.length) (hi : Lib.idxOfS F ⟨#[112]⟩ = (k : Int)) :
    Runs ⟨A, F, X, preW u ws⟩ .formula 0 (.bin (nd1 5) (.un n t) (.leaf ⟨3, k, 0, 0, 0, 0⟩)) (preW u ws).length := by
  have h1 := hu _ _ _ (Runs.inParen (u := u) (v := [⟨#[38]⟩, ⟨#[112]⟩]) h)
  have e : preW u ws = (u ++ ⟨#[40]⟩ :: (ws ++ [⟨#[41]⟩])) ++ [⟨#[38]⟩, ⟨#[112]⟩] := by simp [preW]
  have el : (u ++ ⟨#[40]⟩ :: (ws ++ [(⟨#[41]⟩ : ByteArray)])).length = u.length + ws.length + 2 := by simp; omega
  have h2 : tkT ⟨A, F, X, preW u ws⟩ (u.length + ws.length + 2) = ⟨#[38]⟩ := by
    rw [e, ← el]
    exact tkT_at
  have h3 : (preW u ws).getD (u.length + ws.length + 2 + 1) ByteArray.empty = ⟨#[112]⟩ := by
    rw [e, ← el]
    exact getD_right 1
  have h4 := runs_fact A F X (preW u ws) _ k _ h3 rfl hi
  have hz : u.length + ws.length + 2 + 1 + 1 = (preW u ws).length := by rw [e, List.length_append, el]; rfl
  rw [hz] at h4
  have hend : Stp (tkT ⟨A, F, X, preW u ws⟩ (preW u ws).length) := by rw [tkT_over]; exact Stp.empty
  exact Runs.fromAnd (Runs.and h1 (Runs.andMore h2 h4 (Runs.loopEnd hend.a))) hend
end Go.Proofs.Ws
namespace Go.Proofs.YthhkeobjjeldhaaDoor
open Go.RowKit Go.Proofs.Ws Go.Maps
theorem trAll_imp {P Q : Nd → Prop} (h : ∀ n, P n → Q n) : ∀ t : Tr, trAll P t → trAll Q t
  | .leaf n, hp => h n hp
  | .un n a, ⟨hp, ha⟩ => ⟨h n hp, trAll_imp h a ha⟩
  | .bin n a b, ⟨hp, ha, hb⟩ => ⟨h n hp, trAll_imp h a ha, trAll_imp h b hb⟩
structure UnN (n : Nd) : Prop where
  kn : known n.op = true
  cl : cleanN n
  rg : rangeOk n = true
  br : bare n = n
  ux : usesX n.op = true
  uy : usesY n.op = false
theorem canT_un_le (n : Nd) (t : Tr) : (canT (.un n t)).length ≤ (canT t).length + 1 := put_len _ _
theorem build_tree1 {n : Nd} {t : Tr} (hn : UnN n) (ha : fErr (canT t) = 0) (ht : trOk t) : buildF n [canT t] = shortT (.un n t) := by
  rw [build_un hn.kn hn.cl hn.rg hn.br hn.ux hn.uy ha, treeOf_canT ht]
def preT (sg a : ByteArray) : ByteArray := sg ++ ⟨#[40]⟩ ++ a ++ ⟨#[41, 32, 38, 32, 112]⟩
theorem pre_tok {sg a : ByteArray} {u : List ByteArray} (hs : ∀ (b : List UInt8) (v : List ByteArray), TokW (40 :: b) v → TokW (sg.data.toList ++ 40 :: b) (u ++ v)) (ha : (tokV a).err = 0) (hz : (preT sg a).size ≤ 4000) :
    (tokV (preT sg a)).err = 0 ∧ (tokV (preT sg a)).words = preW u (tokV a).words := by
  refine tokV_W ?_ hz
  have e : (preT sg a).data.toList = sg.data.toList ++ 40 :: (a.data.toList ++ 41 :: [32, 38, 32, 112]) := by
    unfold preT
    simp only [bapp, List.append_assoc]
    rfl
  rw [e]
  refine hs _ _ (TokW.paren (W_tokV ha).1 (TokW.space (by decide) (TokW.mark (by decide) (TokW.space (by decide) ?_))))
  have := TokW.word (w := [112]) (b := []) ⟨112, [], rfl, by decide, by decide⟩ brk_nil TokW.nil
  exact this
/-- what the law ParserPrefixes says -/
theorem prefix_parse {A F X : List ByteArray} {sg a : ByteArray} {u : List ByteArray} {n : Nd} (hn : UnN n) (hu : Pre1 A F X u n) (hs : ∀ (b : List UInt8) (v : List ByteArray), TokW (40 :: b) v → TokW (sg.data.toList ++ 40 :: b) (u ++ v))
    (hsa : a.size ≤ 200) (hsg : sg.size ≤ 10) (hi : Lib.idxOfS F ⟨#[112]⟩ = 0) (ha : (parseV A F X a).err = 0) (hl : (parseV A F X a).nodes.length ≤ 100) :
    (parseV A F X (preT sg a)).err = 0 ∧ sameF (parseV A F X (preT sg a)).nodes (buildF (nd1 5) [buildF n [(parseV A F X a).nodes], [⟨3, 0, 0, 0, 0, 0⟩]]) = true := by
  obtain ⟨hg, ht1, _, ta, r1, n1, l1, k1⟩ := parseV_ok ha
  have e1 : (⟨#[40]⟩ : ByteArray).size = 1 := rfl
  have e2 : (⟨#[41, 32, 38, 32, 112]⟩ : ByteArray).size = 5 := rfl
  have hsz : (preT sg a).size ≤ 4000 := by
    unfold preT
    simp only [ByteArray.size_append]
    omega
  obtain ⟨h1, h2⟩ := pre_tok hs ht1 hsz
  have hR := Runs.prefix_and hu r1 (k := 0) hi
  rw [n1] at hl ⊢
  obtain ⟨f1, _⟩ := tok_formula k1 l1
  have hun : (canT (.un n ta)).length ≤ 101 := by have := canT_un_le n ta; omega
  have hok : trOk (.un n ta) := ⟨hn.ux, hn.uy, hn.br, k1.1⟩
  have hlf : canT (.leaf ⟨3, 0, 0, 0, 0, 0⟩) = [⟨3, 0, 0, 0, 0, 0⟩] := by decide
  have hb5 : BinN (nd1 5) := ⟨by decide, ⟨by decide, by decide, by decide⟩, by decide, by decide, by decide, by decide⟩
  have fl : fErr (canT (.leaf ⟨3, 0, 0, 0, 0, 0⟩)) = 0 := by rw [hlf]; decide
  have ol : trOk (.leaf ⟨3, 0, 0, 0, 0, 0⟩) := by
    refine ⟨?_, ?_, ?_⟩ <;> decide
  have fu : fErr (canT (.un n ta)) = 0 := by
    have hall : trAll fldOk (.un n ta) := ⟨⟨hn.kn, hn.cl, hn.rg⟩, trAll_imp (fun m (hm : okE _ m) => hm.1) ta k1.2⟩
    refine fErr_zero (canT_ne _) (by omega) (fun j hj => ⟨canT_ops hok j hj, ?_⟩)
    exact (Iff.rfl : fldOk (bare _) ↔ fldOk _).1 (finT_all (P := fldOk) (.un n ta) hok hall (fun m hm => absurd hm (by simp)) _ (getD_mem hj))
  have hlen := canT_bin_le hb5 fu fl hok ol
  rw [hlf] at hlen
  simp only [List.length_singleton] at hlen
  have hp := parseV_tree (t := .bin (nd1 5) (.un n ta) (.leaf ⟨3, 0, 0, 0, 0, 0⟩)) hg h1 (by rw [h2]; exact hR) (by omega)
  have h0 : (parseV A F X (preT sg a)).err = 0 := by rw [hp]
  obtain ⟨_, _, _, q1, _, q2⟩ := parseV_fits h0
  refine ⟨h0, ?_⟩
  have e3 : buildF n [canT ta] = canT (.un n ta) := by
    rw [build_tree1 hn f1 k1.1]
    unfold shortT
    rw [if_neg (by omega)]
  have e4 : buildF (nd1 5) [buildF n [canT ta], [⟨3, 0, 0, 0, 0, 0⟩]] = canT (.bin (nd1 5) (.un n ta) (.leaf ⟨3, 0, 0, 0, 0, 0⟩)) := by
    rw [e3, ← hlf, build_tree2 hb5 fu fl hok ol]
    unfold shortT
    rw [if_neg (by omega)]
  rw [e4]
  rw [hp] at q1 q2 ⊢
  unfold sameF
  exact decide_eq_true ⟨q1, q1, rfl⟩
end Go.Proofs.YthhkeobjjeldhaaDoor
