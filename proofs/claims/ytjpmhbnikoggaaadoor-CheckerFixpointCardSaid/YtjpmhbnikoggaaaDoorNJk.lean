/- Layer 6: texts joined: Mg Mh Mi Mj. -/
import Derived.Test.YtjpmhbnikoggaaaDoorNJi
/- Layer 5: renumber by a shift. -/
namespace Go.Proofs.Ws
open Go
/-- a node with its operands moved -/
def shiftN (s : Nat) (n : Nd) : Nd := { n with x := if usesX n.op = true then n.x + s else n.x, y := if usesY n.op = true then n.y + s else n.y }
end Go.Proofs.Ws
namespace Go.Proofs.YtjpmhbnikoggaaaDoor
open Go.RowKit Go.Proofs.Ws Go.Maps
theorem shiftCl_any (v : Int) (s g : Nat) (w : World) (hc : w.cell? ⟨g, 0, none⟩ = some (.int .i64 (s : Int))) (hv : 0 ≤ v ∧ v ≤ 100000) (hs : s ≤ 100000) :
    Calls Tryd.prog 62 #[.int .i64 v, .pointer (some ⟨g, 0, none⟩)] w fun e w' => e = .returned (.int .i64 (v + s)) ∧ w = w' := by
  have h1 : wrap64 (v + (s : Int)) = v + s := by unfold wrap64; omega
  have h2 : IntKind.i64.wrap (v + (s : Int)) = v + s := by rw [IntKind.wrap_i64]; omega
  go_enter Tryd.func62, Tryd.ntmps62
  go_wp2
  go_ret
  exact ⟨rfl, rfl⟩
/-- the boxes of renumber, where the closure only reads -/
structure SQ (w W : World) (g0 g1 g2 : Nat) (x : Nd) (a1 a2 a3 a4 : Int) : Prop where
  bx : Box W g0 x
  rs : W.heap[g1]? = some (.cells #[.int .i64 0, .int .i64 0, .int .i64 0, .int .i64 0, .int .i64 0, .int .i64 0] 62 (0, 0))
  sh : W.heap[g2]? = some (.cells #[.int .i64 a1, .int .i64 a2, .int .i64 a3, .int .i64 a4] 73 (0, 0))
  be : Below w.heap.size w W
  l0 : w.heap.size ≤ g0
  n01 : g0 ≠ g1
  n02 : g0 ≠ g2
theorem SQ.set {w W : World} {g0 g1 g2 j : Nat} {x x' : Nd} {a1 a2 a3 a4 : Int} {v : Value} (h : SQ w W g0 g1 g2 x a1 a2 a3 a4) (hx : Box (W.setCell ⟨g0, j, none⟩ v) g0 x') : SQ w (W.setCell ⟨g0, j, none⟩ v) g0 g1 g2 x' a1 a2 a3 a4 :=
  ⟨hx, (Below.heap_setCell _ _ _ _ h.n01.symm).trans h.rs, (Below.heap_setCell _ _ _ _ h.n02.symm).trans h.sh, h.be.setCell h.l0 _, h.l0, h.n01, h.n02⟩
theorem SQ.cells {w W : World} {g0 g1 g2 : Nat} {x : Nd} {a1 a2 a3 a4 : Int} (h : SQ w W g0 g1 g2 x a1 a2 a3 a4) : W.cell? ⟨g2, 3, none⟩ = some (.int .i64 a4) := Lib.cell_of_heap h.sh 3
theorem SQ.zero {w W : World} {g0 g1 g2 : Nat} {x : Nd} {a1 a2 a3 a4 : Int} (h : SQ w W g0 g1 g2 x a1 a2 a3 a4) : Box W g1 ⟨0, 0, 0, 0, 0, 0⟩ := by
  have := Lib.cell_of_heap h.rs
  exact ⟨this 0, this 1, this 2, this 3, this 4, this 5, fun j => Lib.frozen_of_heap h.rs j⟩
theorem SQ.done {w W : World} {g0 g1 g2 : Nat} {x : Nd} {a1 a2 a3 a4 : Int} (h : SQ w W g0 g1 g2 x a1 a2 a3 a4) (hl : w.heap.size ≤ g1) (z : Nd) : Below w.heap.size w (putBox W g1 z) :=
  (((((h.be.setCell hl _).setCell hl _).setCell hl _).setCell hl _).setCell hl _).setCell hl _
theorem SQ.start {w w1 : World} (x : Nd) (a1 a2 a3 a4 : Int)
    (hb : Below ((w.alloc (.cells #[.int .i64 x.op, .int .i64 x.i, .int .i64 x.e, .int .i64 x.g, .int .i64 x.x, .int .i64 x.y] 62)).alloc (.cells #[.int .i64 0, .int .i64 0, .int .i64 0, .int .i64 0, .int .i64 0, .int .i64 0] 62)).heap.size
      ((w.alloc (.cells #[.int .i64 x.op, .int .i64 x.i, .int .i64 x.e, .int .i64 x.g, .int .i64 x.x, .int .i64 x.y] 62)).alloc (.cells #[.int .i64 0, .int .i64 0, .int .i64 0, .int .i64 0, .int .i64 0, .int .i64 0] 62)) w1) :
    SQ w (w1.alloc (.cells #[.int .i64 a1, .int .i64 a2, .int .i64 a3, .int .i64 a4] 73)) w.heap.size (w.heap.size + 1) w1.heap.size x a1 a2 a3 a4 := by
  have hs1 : (w.alloc (.cells #[.int .i64 x.op, .int .i64 x.i, .int .i64 x.e, .int .i64 x.g, .int .i64 x.x, .int .i64 x.y] 62)).heap.size = w.heap.size + 1 := by simp
  have hbx := Box.made w x 62
  have hba : Below w.heap.size w (w.alloc (.cells #[.int .i64 x.op, .int .i64 x.i, .int .i64 x.e, .int .i64 x.g, .int .i64 x.x, .int .i64 x.y] 62)) := (Below.refl _ w).alloc (Nat.le_refl _) _
  generalize w.alloc (.cells #[.int .i64 x.op, .int .i64 x.i, .int .i64 x.e, .int .i64 x.g, .int .i64 x.x, .int .i64 x.y] 62) = wa at *
  have hs2 : (wa.alloc (.cells #[.int .i64 0, .int .i64 0, .int .i64 0, .int .i64 0, .int .i64 0, .int .i64 0] 62)).heap.size = w.heap.size + 2 := by simp; omega
  have hr0 := heap_alloc_new wa (.cells #[.int .i64 0, .int .i64 0, .int .i64 0, .int .i64 0, .int .i64 0, .int .i64 0] 62)
  have hbb : Below wa.heap.size wa (wa.alloc (.cells #[.int .i64 0, .int .i64 0, .int .i64 0, .int .i64 0, .int .i64 0, .int .i64 0] 62)) := (Below.refl _ wa).alloc (Nat.le_refl _) _
  generalize wa.alloc (.cells #[.int .i64 0, .int .i64 0, .int .i64 0, .int .i64 0, .int .i64 0, .int .i64 0] 62) = wb at *
  have hbc : Below w1.heap.size w1 (w1.alloc (.cells #[.int .i64 a1, .int .i64 a2, .int .i64 a3, .int .i64 a4] 73)) := (Below.refl _ w1).alloc (Nat.le_refl _) _
  have hsh := heap_alloc_new w1 (.cells #[.int .i64 a1, .int .i64 a2, .int .i64 a3, .int .i64 a4] 73)
  generalize w1.alloc (.cells #[.int .i64 a1, .int .i64 a2, .int .i64 a3, .int .i64 a4] 73) = w2 at *
  have s1 := hb.size
  have hall : Below w.heap.size w w2 := (hba.trans (hbb.mono (by omega))).trans ((hb.mono (by omega)).trans (hbc.mono (by omega)))
  refine ⟨hbx.keep ?_, ?_, hsh, hall, Nat.le_refl _, by omega, by omega⟩
  · exact (hbc.block _ (by omega)).trans ((hb.block _ (by omega)).trans (hbb.block _ (by omega)))
  · rw [hs1] at hr0
    exact (hbc.block _ (by omega)).trans ((hb.block _ (by omega)).trans hr0)
set_option maxRecDepth 100000 in
set_option maxHeartbeats 4000000 in
theorem pShift_0 (x : Nd) (s g : Nat) (w : World) (hg : g < w.heap.size) (hc : w.cell? ⟨g, 0, none⟩ = some (.int .i64 (s : Int))) (hs : s ≤ 100000) (ho : shO x.op = 0) :
    Calls Tryd.prog 61 #[nv x, .func (Fn.func 62) #[] #[.pointer (some ⟨g, 0, none⟩)]] w fun e w' => e = .returned (nv x) ∧ Below w.heap.size w w' := by
  have HSH := Lib.hid (fun W => pShape_any x.op W)
  unfold shV shC at HSH
  rw [ho] at HSH
  have HCL := Lib.hid (fun (v : Int) (hv : 0 ≤ v ∧ v ≤ 100000) (W : World) (h : Below w.heap.size w W) => shiftCl_any v s g W ((h.cell (p := ⟨g, 0, none⟩) hg).trans hc) hv hs)
  unfold nv
  generalize shN x.op = q1 at *
  generalize shE x.op = q2 at *
  generalize shG x.op = q3 at *
  generalize known x.op = q4 at *
  clear ho hc
  go_enter Tryd.func61, Tryd.ntmps61
  go_wp2_with fail
  refine (HSH.out _).mono ?_
  rintro e w1 ⟨rfl, hb1⟩
  have HQ0 := Lib.hid (SQ.start x q1 q2 q3 0 hb1)
  clear hb1
  have hq3 := HQ0.out.cells
  obtain ⟨b0, b1, b2, b3, b4, b5, bf⟩ := HQ0.out.bx
  clear bf
  obtain ⟨z0, z1, z2, z3, z4, z5, zf⟩ := HQ0.out.zero
  have zf0 := zf 0
  have zf1 := zf 1
  have zf2 := zf 2
  have zf3 := zf 3
  have zf4 := zf 4
  have zf5 := zf 5
  clear zf
  go_wp2_with fail
  have HD := Lib.hid (HQ0.out.done (Nat.le_succ _) x)
  have HK := Lib.hid (putBox_block HQ0.out.rs x)
  refine bodyPost_ret (results_cell_row rfl _ _ (w.heap.size + 1) _ _ (0, 0) _ rfl HK.out Tryd.underlying62 rfl nodeInfo) rfl ?_
  exact ⟨rfl, HD.out⟩
set_option maxRecDepth 100000 in
set_option maxHeartbeats 4000000 in
theorem pShift_1 (x : Nd) (s g : Nat) (w : World) (hg : g < w.heap.size) (hc : w.cell? ⟨g, 0, none⟩ = some (.int .i64 (s : Int))) (hs : s ≤ 100000) (hx : 0 ≤ x.x ∧ x.x ≤ 100000) (ho : shO x.op = 1) :
    Calls Tryd.prog 61 #[nv x, .func (Fn.func 62) #[] #[.pointer (some ⟨g, 0, none⟩)]] w fun e w' => e = .returned (nv { x with x := x.x + (s : Int) }) ∧ Below w.heap.size w w' := by
  have HSH := Lib.hid (fun W => pShape_any x.op W)
  unfold shV shC at HSH
  rw [ho] at HSH
  have HCL := Lib.hid (fun (v : Int) (hv : 0 ≤ v ∧ v ≤ 100000) (W : World) (h : Below w.heap.size w W) => shiftCl_any v s g W ((h.cell (p := ⟨g, 0, none⟩) hg).trans hc) hv hs)
  unfold nv
  generalize shN x.op = q1 at *
  generalize shE x.op = q2 at *
  generalize shG x.op = q3 at *
  generalize known x.op = q4 at *
  clear ho hc
  go_enter Tryd.func61, Tryd.ntmps61
  go_wp2_with fail
  refine (HSH.out _).mono ?_
  rintro e w1 ⟨rfl, hb1⟩
  have HQ0 := Lib.hid (SQ.start x q1 q2 q3 1 hb1)
  clear hb1
  have hq3 := HQ0.out.cells
  obtain ⟨b0, b1, b2, b3, b4, b5, bf⟩ := HQ0.out.bx
  have bf4 := bf 4
  clear bf
  obtain ⟨z0, z1, z2, z3, z4, z5, zf⟩ := HQ0.out.zero
  have zf0 := zf 0
  have zf1 := zf 1
  have zf2 := zf 2
  have zf3 := zf 3
  have zf4 := zf 4
  have zf5 := zf 5
  clear zf
  go_wp2_with fail
  refine (HCL.out _ hx _ HQ0.out.be).mono ?_
  rintro e w3 ⟨rfl, rfl⟩
  have hn02 := HQ0.out.n02
  have hn01 := HQ0.out.n01
  have HQ2 := Lib.hid (HQ0.out.set (HQ0.out.bx.setX (x.x + (s : Int))))
  go_wp2_with fail
  have HD := Lib.hid (HQ2.out.done (Nat.le_succ _) { x with x := x.x + (s : Int) })
  have HK := Lib.hid (putBox_block HQ2.out.rs { x with x := x.x + (s : Int) })
  refine bodyPost_ret (results_cell_row rfl _ _ (w.heap.size + 1) _ _ (0, 0) _ rfl HK.out Tryd.underlying62 rfl nodeInfo) rfl ?_
  exact ⟨rfl, HD.out⟩
set_option maxRecDepth 100000 in
set_option maxHeartbeats 4000000 in
theorem pShift_2 (x : Nd) (s g : Nat) (w : World) (hg : g < w.heap.size) (hc : w.cell? ⟨g, 0, none⟩ = some (.int .i64 (s : Int))) (hs : s ≤ 100000) (hx : 0 ≤ x.x ∧ x.x ≤ 100000) (hy : 0 ≤ x.y ∧ x.y ≤ 100000) (ho : shO x.op = 2) :
    Calls Tryd.prog 61 #[nv x, .func (Fn.func 62) #[] #[.pointer (some ⟨g, 0, none⟩)]] w fun e w' => e = .returned (nv { x with x := x.x + (s : Int), y := x.y + (s : Int) }) ∧ Below w.heap.size w w' := by
  have HSH := Lib.hid (fun W => pShape_any x.op W)
  unfold shV shC at HSH
  rw [ho] at HSH
  have HCL := Lib.hid (fun (v : Int) (hv : 0 ≤ v ∧ v ≤ 100000) (W : World) (h : Below w.heap.size w W) => shiftCl_any v s g W ((h.cell (p := ⟨g, 0, none⟩) hg).trans hc) hv hs)
  unfold nv
  generalize shN x.op = q1 at *
  generalize shE x.op = q2 at *
  generalize shG x.op = q3 at *
  generalize known x.op = q4 at *
  clear ho hc
  go_enter Tryd.func61, Tryd.ntmps61
  go_wp2_with fail
  refine (HSH.out _).mono ?_
  rintro e w1 ⟨rfl, hb1⟩
  have HQ0 := Lib.hid (SQ.start x q1 q2 q3 2 hb1)
  clear hb1
  have hq3 := HQ0.out.cells
  obtain ⟨b0, b1, b2, b3, b4, b5, bf⟩ := HQ0.out.bx
  have bf4 := bf 4
  have bf5 := bf 5
  clear bf
  obtain ⟨z0, z1, z2, z3, z4, z5, zf⟩ := HQ0.out.zero
  have zf0 := zf 0
  have zf1 := zf 1
  have zf2 := zf 2
  have zf3 := zf 3
  have zf4 := zf 4
  have zf5 := zf 5
  clear zf
  go_wp2_with fail
  refine (HCL.out _ hx _ HQ0.out.be).mono ?_
  rintro e w3 ⟨rfl, rfl⟩
  have hn02 := HQ0.out.n02
  have hn01 := HQ0.out.n01
  have HQ2 := Lib.hid (HQ0.out.set (HQ0.out.bx.setX (x.x + (s : Int))))
  go_wp2_with fail
  refine (HCL.out _ hy _ HQ2.out.be).mono ?_
  rintro e w3 ⟨rfl, rfl⟩
  have HQ4 := Lib.hid (HQ2.out.set (HQ2.out.bx.setY (x.y + (s : Int))))
  go_wp2_with fail
  have HD := Lib.hid (HQ4.out.done (Nat.le_succ _) { x with x := x.x + (s : Int), y := x.y + (s : Int) })
  have HK := Lib.hid (putBox_block HQ4.out.rs { x with x := x.x + (s : Int), y := x.y + (s : Int) })
  refine bodyPost_ret (results_cell_row rfl _ _ (w.heap.size + 1) _ _ (0, 0) _ rfl HK.out Tryd.underlying62 rfl nodeInfo) rfl ?_
  exact ⟨rfl, HD.out⟩
theorem pShift_any (x : Nd) (k s g : Nat) (w : World) (hg : g < w.heap.size) (hc : w.cell? ⟨g, 0, none⟩ = some (.int .i64 (s : Int))) (hs : s ≤ 100000) (hk : k ≤ 100000) (ho : opsOk x k) :
    Calls Tryd.prog 61 #[nv x, .func (Fn.func 62) #[] #[.pointer (some ⟨g, 0, none⟩)]] w fun e w' => e = .returned (nv (shiftN s x)) ∧ Below w.heap.size w w' := by
  cases hx : usesX x.op with
  | false =>
    have hy : usesY x.op = false := by
      cases hq : usesY x.op
      · rfl
      · rw [usesY_X hq] at hx; cases hx
    have e : shiftN s x = x := by unfold shiftN; rw [hx, hy]; rfl
    rw [e]
    exact pShift_0 x s g w hg hc hs (shO_0 hy hx)
  | true =>
    have ox := opsOk_x ho hx
    cases hy : usesY x.op with
    | false =>
      have e : shiftN s x = { x with x := x.x + (s : Int) } := by unfold shiftN; rw [hx, hy]; rfl
      rw [e]
      exact pShift_1 x s g w hg hc hs (by omega) (shO_1 hy hx)
    | true =>
      have oy := opsOk_y ho hy
      have e : shiftN s x = { x with x := x.x + (s : Int), y := x.y + (s : Int) } := by unfold shiftN; rw [hx, hy]; rfl
      rw [e]
      exact pShift_2 x s g w hg hc hs (by omega) (by omega) (shO_2 hy)
end Go.Proofs.YtjpmhbnikoggaaaDoor
/- Layer 5: appendShifted. -/
namespace Go.Proofs.YtjpmhbnikoggaaaDoor
open Go.RowKit Go.Proofs.Ws Go.Maps
theorem int_block {W : World} {g : Nat} {cs : Array Value} {b n : Nat} {v : Value} {xs : List Value} (h : W.heap[g]? = some (.cells cs 3 (0, 0))) (ho : W.ownsRow b 62 6 v n xs) : v.ownBlock ≠ some g := by
  intro e
  obtain ⟨cur, h2⟩ := own_typeK ho e
  rw [h] at h2
  injection h2 with h2
  injection h2 with _ h3
  exact absurd h3 (by decide)
set_option maxRecDepth 100000 in
set_option maxHeartbeats 4000000 in
theorem pAppS_any (l f : List Nd) (A : Option Addr) (n c b0 : Nat) (v : Value) (w : World) (hf : opsL f) (hn : n ≤ 300) (hl3 : l.length ≤ 300) (hb0 : b0 ≤ w.heap.size) (hR : Reads w b0 6 A n (nds f)) (hown : w.ownsRow b0 62 6 v l.length (nds l)) :
    Calls Tryd.prog 50 #[v, .slice A n c] w fun e w' => ∃ v', e = .returned v' ∧ w'.ownsRow b0 62 6 v' (l ++ f.map (shiftN l.length)).length (nds (l ++ f.map (shiftN l.length))) ∧ Below b0 w w' := by
  obtain ⟨A0, c0, rfl⟩ := own_slK hown
  have hl := hR.nd_len
  have HLN := Lib.hid hl
  have HR := Lib.hid hR
  have HF := Lib.hid hf
  have HS0 : Hid ((w.alloc (.cells #[.int .i64 (l.length : Int)] 3)).heap[w.heap.size]? = some (.cells #[.int .i64 (l.length : Int)] 3 (0, 0))) := Lib.hid (heap_alloc_new w _)
  have HO0 : (w.alloc (.cells #[.int .i64 (l.length : Int)] 3)).ownsRow b0 62 6 (.slice A0 l.length c0) l.length (nds l) := own_keep1K hown (fun g hg => Below.heap_alloc w _ g (hown.lt g hg).2)
  have HB0 : Hid (Below b0 w (w.alloc (.cells #[.int .i64 (l.length : Int)] 3))) := Lib.hid ((Below.refl _ w).alloc hb0 _)
  have hs0 : w.heap.size < (w.alloc (.cells #[.int .i64 (l.length : Int)] 3)).heap.size := by simp
  clear hR hl hf hown
  go_enter Tryd.func50, Tryd.ntmps50
  go_wp2
  generalize w.alloc (.cells #[.int .i64 (l.length : Int)] 3) = w1 at *
  go_loopw [0, 7, 12] (fun u0 u7 i wr => ∃ (k : Nat), k ≤ n ∧ i = .int .i64 k ∧ Hid (wr.ownsRow b0 62 6 u0 (l ++ (f.take k).map (shiftN l.length)).length (nds (l ++ (f.take k).map (shiftN l.length)))) ∧ Hid (wr.heap[w.heap.size]? = some (.cells #[.int .i64 (l.length : Int)] 3 (0, 0))) ∧ Hid (Below b0 w wr)) (fun _ _ i _ => n - (intOf i).toNat)
  case atStart => exact ⟨0, Nat.zero_le _, rfl, Lib.hid (by simpa using HO0), HS0, HB0⟩
  case round =>
    obtain ⟨k, hk, rfl, HO, HS, HB⟩ := hrel
    by_cases hlt : k < n
    · obtain ⟨ad, rfl, hb, m0, m1, m2, m3, m4, m5⟩ := (HR.out.below HB.out).nd_at hlt
      have ho := HF.out k (by have := HLN.out; omega)
      obtain ⟨x, hx⟩ : ∃ x, f.getD k nd0 = x := ⟨_, rfl⟩
      rw [hx] at m0 m1 m2 m3 m4 m5 ho
      have l1 := add_cell m1
      have l2 := add_cell m2
      have l3 := add_cell m3
      have l4 := add_cell m4
      have l5 := add_cell m5
      have HT : Hid (l ++ (f.take (k + 1)).map (shiftN l.length) = (l ++ (f.take k).map (shiftN l.length)) ++ [shiftN l.length x]) := Lib.hid (by
        have hkf : k < f.length := by have := HLN.out; omega
        have e2 : f[k] = x := by rw [← hx]; simp [hkf]
        rw [List.take_succ_eq_append_getElem hkf, List.map_append, ← List.append_assoc, e2]; rfl)
      have hlen : (l ++ (f.take k).map (shiftN l.length)).length = l.length + k := by
        have := HLN.out
        simp; omega
      have hgs : w.heap.size < wr.heap.size := (Array.getElem?_eq_some_iff.1 HS.out).1
      have HRN := Lib.hid (fun (W : World) (h : Below wr.heap.size wr W) => pShift_any x k l.length w.heap.size W (by have := h.size; omega) (by
        rw [Lib.cell_of_heap ((h.block _ hgs).trans HS.out)]; rfl) (by omega) (by omega) ho)
      unfold nv at HRN
      have HWB : Hid (∀ o, Below wr.heap.size wr (wr.alloc o)) := Lib.hid (fun o => (Below.refl _ wr).alloc (Nat.le_refl _) o)
      clear hx ho
      generalize shiftN l.length x = z at *
      generalize l ++ (f.take k).map (shiftN l.length) = L at *
      go_wp2_with fail
      refine (HRN.out _ (HWB.out _)).mono ?_
      rintro e w4 ⟨rfl, hb4⟩
      have HB4 : Hid (Below wr.heap.size wr w4) := Lib.hid ((HWB.out _).trans (hb4.mono (HWB.out (.cells #[.int .i64 x.op, .int .i64 x.i, .int .i64 x.e, .int .i64 x.g, .int .i64 x.x, .int .i64 x.y] 62)).size))
      clear hb4 m0 m1 m2 m3 m4 m5 l1 l2 l3 l4 l5
      have hown4 : w4.ownsRow b0 62 6 u0 L.length (nds L) := own_keep1K HO.out (fun g hg => HB4.out.block g (HO.out.lt g hg).2)
      have HOW := Lib.hid hown4
      have HS4 := Lib.hid ((HB4.out.block _ hgs).trans HS.out)
      have hsz4 := HB4.out.size
      have hszb := HB.out.size
      clear hown4
      go_wp2_with (at_builtin; refine wp_appN z _ rfl _ _ rfl b0 _ _ rfl (HOW.out.alloc _) rfl ?k1 ?k2 ?k3 ?_)
      case k1 =>
        intro j u hj
        have hh := heap_alloc_new w4 (.cells #[.int .i64 z.op, .int .i64 z.i, .int .i64 z.e, .int .i64 z.g, .int .i64 z.x, .int .i64 z.y] 62)
        have := Lib.cell_of_heap hh j
        rw [this, ← hj]
        simp [ndC]
      case k2 => omega
      case k3 => simp; omega
      · intro v' w5 hown5 hgrow
        have HO5 : Hid (w5.ownsRow b0 62 6 v' (l ++ (f.take (k + 1)).map (shiftN l.length)).length (nds (l ++ (f.take (k + 1)).map (shiftN l.length)))) := Lib.hid (by
          rw [HT.out]
          have e : (L ++ [z]).length = l.length + k + 1 := by rw [List.length_append, hlen]; rfl
          rw [e]
          exact hown5)
        have HS5 := Lib.hid ((hgrow.block w.heap.size (by simp; omega) (fun e => int_block HS4.out HOW.out e.symm)).trans ((Below.heap_alloc w4 _ _ (by omega)).trans HS4.out))
        have HB5 : Hid (Below b0 w w5) := Lib.hid (((HB.out.trans (HB4.out.mono (by omega))).alloc (by omega) _).grown hgrow (by simp; omega) (fun g hg => (HOW.out.lt g hg).1))
        clear hown5 hgrow
        go_wp2
        go_roundw
        case rel => exact ⟨k + 1, by omega, by go_num, HO5, HS5, HB5⟩
        case measure => simp [intOf]; omega
    · have hkn : f.take k = f := by rw [List.take_of_length_le]; have := HLN.out; omega
      rw [hkn] at HO
      go_wp2
      go_ret
      exact ⟨_, rfl, HO.out, HB.out⟩
end Go.Proofs.YtjpmhbnikoggaaaDoor
/- Layer 5: build. -/
namespace Go.Proofs.Ws
open Go
/-- the lists one behind the other, with operands at their new places -/
def catS : List (List Nd) → List Nd → List Nd
  | [], l => l
  | f :: fs, l => catS fs (l ++ f.map (shiftN l.length))
/-- the node behind the lists of its operands -/
def lastN (n : Nd) (fs : List (List Nd)) : Nd :=
  match fs with
  | [] => n
  | [f] => { n with x := (f.length : Int) - 1 }
  | [f, g] => { n with x := (f.length : Int) - 1, y := (f.length + g.length : Int) - 1 }
  | _ => n
def buildF (n : Nd) (fs : List (List Nd)) : List Nd :=
  if rangeOk n = false then [] else if ∃ f ∈ fs, fErr f ≠ 0 then [] else
  if 200 < (canonF (catS fs [] ++ [lastN n fs])).length then [] else canonF (catS fs [] ++ [lastN n fs])
end Go.Proofs.Ws
namespace Go.Proofs.YtjpmhbnikoggaaaDoor
open Go.RowKit Go.Proofs.Ws Go.Maps
/-- two numbers in a block -/
def EB (W : World) (g : Nat) (e0 e1 : Int) : Prop := W.cell? ⟨g, 0, none⟩ = some (.int .i64 e0) ∧ W.cell? ⟨g, 1, none⟩ = some (.int .i64 e1) ∧ (∀ j, W.frozen? ⟨g, j, none⟩ = false)
theorem EB.keep {W W' : World} {g : Nat} {e0 e1 : Int} (h : EB W g e0 e1) (hb : W'.heap[g]? = W.heap[g]?) : EB W' g e0 e1 :=
  ⟨(World.cell?_of_block (a := ⟨g, 0, none⟩) hb).trans h.1, (World.cell?_of_block (a := ⟨g, 1, none⟩) hb).trans h.2.1, fun j => (World.frozen?_of_block (a := ⟨g, j, none⟩) hb).trans (h.2.2 j)⟩
theorem EB.set {W : World} {g : Nat} {e0 e1 : Int} (h : EB W g e0 e1) {k : Nat} (hk : k < 2) (v : Int) : EB (W.setCell ⟨g, k, none⟩ (.int .i64 v)) g (if k = 0 then v else e0) (if k = 1 then v else e1) := by
  obtain ⟨h0, h1, hf⟩ := h
  match k, hk with
  | 0, _ => exact ⟨World.cell?_setCell_same W _ _ h0, (World.cell?_setCell_other W ⟨g, 0, none⟩ ⟨g, 1, none⟩ _ (by simp)).trans h1, fun j => by rw [World.frozen?_setCell]; exact hf j⟩
  | 1, _ => exact ⟨(World.cell?_setCell_other W ⟨g, 1, none⟩ ⟨g, 0, none⟩ _ (by simp)).trans h0, World.cell?_setCell_same W _ _ h1, fun j => by rw [World.frozen?_setCell]; exact hf j⟩
theorem EB.made (w : World) (t : TypeId) : EB (w.alloc (.cells #[.int .i64 0, .int .i64 0] t)) w.heap.size 0 0 := by
  have hh := heap_alloc_new w (.cells #[.int .i64 0, .int .i64 0] t)
  have hc := Lib.cell_of_heap hh
  exact ⟨hc 0, hc 1, fun j => Lib.frozen_of_heap hh j⟩
theorem catS_app : ∀ (fs : List (List Nd)) (f : List Nd) (l : List Nd), catS (fs ++ [f]) l = catS fs l ++ f.map (shiftN (catS fs l).length)
  | [], _f, _l => rfl
  | _g :: fs, f, _l => catS_app fs f _
def catK (fs : List (List Nd)) (k : Nat) : List Nd := catS (fs.take k) []
theorem catK_succ (fs : List (List Nd)) (k : Nat) (h : k < fs.length) : catK fs (k + 1) = catK fs k ++ (fs.getD k []).map (shiftN (catK fs k).length) := by
  unfold catK
  rw [List.take_succ_eq_append_getElem h, catS_app, show fs.getD k [] = fs[k] from by simp [h]]
/-- the end of the list of operand j, as it stands after k rounds -/
def endK (fs : List (List Nd)) (k j : Nat) : Int := if j < k then ((catK fs (j + 1)).length : Int) - 1 else 0
theorem endK_succ (fs : List (List Nd)) (k j : Nat) : endK fs (k + 1) j = if k = j then ((catK fs (k + 1)).length : Int) - 1 else endK fs k j := by
  unfold endK
  by_cases e : k = j
  · subst e; rw [if_pos (by omega), if_pos rfl]
  · rw [if_neg e]
    by_cases h : j < k
    · rw [if_pos h, if_pos (by omega)]
    · rw [if_neg h, if_neg (by omega)]
theorem lastN_eq (n : Nd) (fs : List (List Nd)) (hx : n.x = 0) (hy : n.y = 0) (h : fs.length ≤ 2) : lastN n fs = { n with x := endK fs fs.length 0, y := endK fs fs.length 1 } := by
  match fs, h with
  | [], _ =>
    unfold lastN endK
    obtain ⟨a, b, c, d, e, f⟩ := n
    simp at hx hy; simp [hx, hy]
  | [f], _ =>
    unfold lastN endK catK catS
    obtain ⟨a, b, c, d, e, f⟩ := n
    simp at hx hy; simp [hy, catS]
  | [f, g], _ =>
    unfold lastN endK catK catS
    obtain ⟨a, b, c, d, e, f⟩ := n
    simp [catS]
set_option maxRecDepth 100000 in
set_option maxHeartbeats 4000000 in
theorem pBuild_any (n : Nd) (fs : List (List Nd)) (vs : List Value) (A : Option Addr) (c : Nat) (w : World) (hx : n.x = 0) (hy : n.y = 0) (hlen : fs.length ≤ 2) (hv : Reads w w.heap.size 1 A fs.length vs)
    (hvs : ∀ j, j < fs.length → ∃ Aj cj, vs[j]? = some (.slice Aj (fs.getD j []).length cj) ∧ Reads w w.heap.size 6 Aj (fs.getD j []).length (nds (fs.getD j [])) ∧ (fs.getD j []).length ≤ maxLen)
    (hfin : rangeOk n = true → (∀ f ∈ fs, fErr f = 0) → OkL (catK fs fs.length ++ [lastN n fs]) ∧ (catK fs fs.length ++ [lastN n fs]).length ≤ 401) :
    Calls Tryd.prog 37 #[nv n, .slice A fs.length c] w fun e w' => ∃ A' c', e = .returned (.slice A' (buildF n fs).length c') ∧ Reads w' w'.heap.size 6 A' (buildF n fs).length (nds (buildF n fs)) ∧ Below w.heap.size w w' := by
  have HSH := Lib.hid (fun W => pShape_any n.op W)
  have HIR : Hid (∀ W, Calls Tryd.prog 48 #[.agg #[.int .i64 (shN n.op), .int .i64 (shE n.op), .int .i64 (shG n.op), .int .i64 (shO n.op)], .agg #[.int .i64 n.op, .int .i64 n.i, .int .i64 n.e, .int .i64 n.g, .int .i64 n.x, .int .i64 n.y]] W fun e w' => e = .returned (.bool (rangeOk n)) ∧ Below W.heap.size W w') := Lib.hid (fun W => pInRange_any (shN n.op) (shE n.op) (shG n.op) (shO n.op) n W)
  unfold shV shC at HSH
  have HV := Lib.hid hv
  have HVS := Lib.hid hvs
  have HFIN := Lib.hid hfin
  have HLN := Lib.hid (lastN_eq n fs hx hy hlen)
  have HBF : Hid (buildF n fs = if rangeOk n = false then [] else if ∃ f ∈ fs, fErr f ≠ 0 then [] else if 200 < (canonF (catK fs fs.length ++ [lastN n fs])).length then [] else canonF (catK fs fs.length ++ [lastN n fs])) := Lib.hid (by
    unfold buildF catK; rw [List.take_length])
  generalize buildF n fs = bf at *
  generalize lastN n fs = ln at *
  unfold nv
  clear hv hvs hfin hx hy
  generalize hq1 : shN n.op = q1 at *
  generalize hq2 : shE n.op = q2 at *
  generalize hq3 : shG n.op = q3 at *
  generalize hq4 : shO n.op = q4 at *
  generalize hq5 : known n.op = q5 at *
  clear hq1 hq2 hq3 hq4 hq5
  have hbx := fun (W : World) => Box.made W n 62
  go_enter Tryd.func37, Tryd.ntmps37
  go_wp2_with fail
  have HB0 : Hid (Below w.heap.size w (w.alloc (.cells #[.int .i64 n.op, .int .i64 n.i, .int .i64 n.e, .int .i64 n.g, .int .i64 n.x, .int .i64 n.y] 62))) := Lib.hid ((Below.refl _ w).alloc (Nat.le_refl _) _)
  have HBX0 := Lib.hid (hbx w)
  have hs0 : w.heap.size < (w.alloc (.cells #[.int .i64 n.op, .int .i64 n.i, .int .i64 n.e, .int .i64 n.g, .int .i64 n.x, .int .i64 n.y] 62)).heap.size := by simp
  clear hbx
  generalize w.alloc (.cells #[.int .i64 n.op, .int .i64 n.i, .int .i64 n.e, .int .i64 n.g, .int .i64 n.x, .int .i64 n.y] 62) = w0 at *
  refine (HSH.out _).mono ?_
  rintro e w1 ⟨rfl, hb1⟩
  have hs1 : w.heap.size < w1.heap.size := Nat.lt_of_lt_of_le hs0 hb1.size
  have HB1 := Lib.hid (((HB0.out).trans (hb1.mono (Nat.le_of_lt hs0))).alloc (Nat.le_of_lt hs1) (.cells #[.int .i64 q1, .int .i64 q2, .int .i64 q3, .int .i64 q4] 73))
  have hbx1 := (HBX0.out.keep (W' := w1) (hb1.block _ hs0)).keep (W' := w1.alloc (.cells #[.int .i64 q1, .int .i64 q2, .int .i64 q3, .int .i64 q4] 73)) (Below.heap_alloc w1 _ _ hs1)
  have HBX1 := Lib.hid hbx1
  have hs1a : w.heap.size < (w1.alloc (.cells #[.int .i64 q1, .int .i64 q2, .int .i64 q3, .int .i64 q4] 73)).heap.size := by simp; omega
  obtain ⟨b0, b1, b2, b3, b4, b5, _⟩ := hbx1
  clear hb1
  go_wp2_with fail
  clear b0 b1 b2 b3 b4 b5
  generalize w1.alloc (.cells #[.int .i64 q1, .int .i64 q2, .int .i64 q3, .int .i64 q4] 73) = w2 at *
  refine (HIR.out _).mono ?_
  rintro e w3 ⟨rfl, hb3⟩
  have HB3 := Lib.hid (HB1.out.trans (hb3.mono (Nat.le_of_lt hs1a)))
  have HBX3 := Lib.hid (HBX1.out.keep (W' := w3) (hb3.block _ hs1a))
  have hs3 : w.heap.size < w3.heap.size := Nat.lt_of_lt_of_le hs1a hb3.size
  clear hb3
  cases hro : rangeOk n with
  | false =>
    have HE : Hid (bf = []) := Lib.hid (by rw [HBF.out, hro]; rfl)
    have HE2 : bf = [] := HE.out
    subst HE2
    go_wp2
    go_ret
    exact ⟨none, 0, rfl, Reads.none_, HB3.out⟩
  | true =>
    have HRO := Lib.hid hro
    clear hro
    go_wp2
    have HEB := Lib.hid (EB.made w3 77)
    have HBE : Hid (Below w3.heap.size w3 (w3.alloc (.cells #[.int .i64 0, .int .i64 0] 77))) := Lib.hid ((Below.refl _ w3).alloc (Nat.le_refl _) _)
    have hsE : w3.heap.size < (w3.alloc (.cells #[.int .i64 0, .int .i64 0] 77)).heap.size := by simp
    generalize w3.alloc (.cells #[.int .i64 0, .int .i64 0] 77) = w4 at *
    have hwG : w.heap.size < w3.heap.size := hs3
    generalize hG : w3.heap.size = G at *
    have HG := Lib.hid hG
    clear hG
    go_loopw [7, 9, 10, 23] (fun u7 u9 u10 i wr => ∃ (k : Nat), k ≤ fs.length ∧ i = .int .i64 k ∧ Hid (wr.ownsRow (G + 1) 62 6 u7 (catK fs k).length (nds (catK fs k))) ∧ Hid (EB wr G (endK fs k 0) (endK fs k 1)) ∧ Hid (Below G w3 wr) ∧ Hid (∀ j, j < k → fErr (fs.getD j []) = 0) ∧ G < wr.heap.size ∧ (catK fs k).length ≤ 200 * k) (fun _ _ _ i _ => fs.length - (intOf i).toNat)
    case atStart => exact ⟨0, Nat.zero_le _, rfl, Lib.hid (World.ownsRow_nil _ _ _ _), HEB, HBE, Lib.hid (fun j hj => absurd hj (by omega)), hsE, by simp [catK, catS]⟩
    case round =>
      obtain ⟨k, hk, rfl, HO, HEK, HB, HFE, hGr, hcl⟩ := hrel
      by_cases hlt : k < fs.length
      · have HBW := Lib.hid (HB3.out.trans (HB.out.mono (Nat.le_of_lt hwG)))
        obtain ⟨Aj, cj, hvj, hRj, hmj⟩ := HVS.out k hlt
        obtain ⟨ad, rfl, hadb, hadc⟩ := HV.out.2 (by omega)
        have hcj : wr.cell? (ad.add k) = some (.slice Aj (fs.getD k []).length cj) := (HBW.out.cell (p := ad.add k) (by rw [block_of_add]; exact hadb)).trans (hadc k _ hvj)
        have HRj := Lib.hid (hRj.below HBW.out)
        have HVJ := Lib.hid (pValid_any (fs.getD k []) Aj (fs.getD k []).length cj wr (HRj.out.more HBW.out.size) hmj)
        have hk2 : (k : Int) < 2 := by omega
        have hk2n : k < 2 := by omega
        have HNE := Lib.hid (endK_succ fs k)
        have HCK := Lib.hid (catK_succ fs k hlt)
        clear hadc hvj hRj
        by_cases hz : fErr (fs.getD k []) = 0
        · have hf200 := (fErr_ok hz).2.1
          have HAP : Hid (∀ W, Below wr.heap.size wr W → Calls Tryd.prog 50 #[u7, .slice Aj (fs.getD k []).length cj] W fun e w' => ∃ v', e = .returned v' ∧ w'.ownsRow (G + 1) 62 6 v' (catK fs (k + 1)).length (nds (catK fs (k + 1))) ∧ Below (G + 1) W w') := Lib.hid (fun W hW => by
            rw [HCK.out]
            exact pAppS_any (catK fs k) (fs.getD k []) Aj (fs.getD k []).length cj (G + 1) u7 W (fErr_ops hz) (by omega) (by omega) (by have := hW.size; omega) ((HRj.out.below (hW.mono (by omega))).more (by omega)) (own_keep1K HO.out (fun g hg => hW.block g (HO.out.lt g hg).2)))
          have HFE2 : Hid (∀ j, j < k + 1 → fErr (fs.getD j []) = 0) := Lib.hid (fun j hj => by
            by_cases e : j = k
            · subst e; exact hz
            · exact HFE.out j (by omega))
          have hcl2 : (catK fs (k + 1)).length ≤ 200 * (k + 1) := by rw [HCK.out, List.length_append, List.length_map]; omega
          rw [hz] at HVJ
          have HN0 := Lib.hid (HNE.out 0)
          have HN1 := Lib.hid (HNE.out 1)
          clear hz HNE
          generalize fs.getD k [] = fj at *
          go_wp2_with fail
          refine (HVJ.out).mono ?_
          rintro e w5 ⟨rfl, hb5⟩
          have HB5 := Lib.hid hb5
          clear hb5 hcj
          go_wp2_with fail
          refine (HAP.out _ HB5.out).mono ?_
          rintro e w6 ⟨v', rfl, hO6, hb6⟩
          obtain ⟨A6, c6, rfl⟩ := own_slK hO6
          have hs5 := HB5.out.size
          have hs6 := hb6.size
          have HO6 := Lib.hid hO6
          have HE6 := Lib.hid ((HEK.out.keep (W' := w5) (HB5.out.block G hGr)).keep (W' := w6) (hb6.block G (by omega)))
          have HB6 : Hid (Below G w3 w6) := Lib.hid ((HB.out.trans (HB5.out.mono (by omega))).trans (hb6.mono (by omega)))
          have HES := Lib.hid (HE6.out.set hk2n (((catK fs (k + 1)).length : Int) - 1))
          obtain ⟨e0, e1, ef⟩ := HE6.out
          have hck : ∃ z, w6.cell? ⟨G, k, none⟩ = some (.int .i64 z) := by
            have : k = 0 ∨ k = 1 := by omega
            rcases this with rfl | rfl
            · exact ⟨_, e0⟩
            · exact ⟨_, e1⟩
          obtain ⟨zk, hck⟩ := hck
          have hfk := ef k
          clear hO6 hb6 e0 e1 ef
          generalize hcc : (catK fs (k + 1)).length = m6 at *
          have hw1 : wrap64 ((m6 : Int) - 1) = (m6 : Int) - 1 := by unfold wrap64; omega
          have hw2 : IntKind.i64.wrap ((m6 : Int) - 1) = (m6 : Int) - 1 := by rw [IntKind.wrap_i64]; omega
          go_wp2
          go_roundw
          case rel =>
            refine ⟨k + 1, by omega, by go_num, Lib.hid ?_, Lib.hid ?_, Lib.hid (HB6.out.setCell (by show G ≤ G; omega) _), HFE2, by simp; omega, by omega⟩
            · rw [hcc]
              exact ownsRow_setCell_below HO6.out (by show G < G + 1; omega) _
            · rw [HN0.out, HN1.out]
              exact HES.out
          case measure => simp [intOf]; omega
        · have HE : Hid (bf = []) := Lib.hid (by
            rw [HBF.out, HRO.out, if_neg (by decide), if_pos ⟨_, show fs.getD k [] ∈ fs from by rw [show fs.getD k [] = fs[k] from by simp [hlt]]; exact List.getElem_mem hlt, hz⟩])
          have HE2 : bf = [] := HE.out
          have hzb : (fErr (fs.getD k []) == 0) = false := by simpa using hz
          rw [hzb] at HVJ
          subst HE2
          clear hz hzb HE HRj HCK
          generalize fs.getD k [] = fj at *
          go_wp2_with fail
          refine (HVJ.out).mono ?_
          rintro e w5 ⟨rfl, hb5⟩
          have HB5 := Lib.hid (HBW.out.trans (hb5.mono HBW.out.size))
          clear hb5
          go_wp2
          go_ret
          exact ⟨none, 0, rfl, Reads.none_, HB5.out⟩
      · have hkf : k = fs.length := by omega
        have hBX := HBX3.out.keep (W' := wr) (HB.out.block _ hwG)
        have HBXr := Lib.hid hBX
        obtain ⟨b0, b1, b2, b3, b4, b5, bf'⟩ := hBX
        have bf4 := bf' 4
        have bf5 := bf' 5
        obtain ⟨e0, e1, ef⟩ := HEK.out
        have hngw : G ≠ w.heap.size := by omega
        have hngw2 : w.heap.size ≠ G := by omega
        clear bf' ef
        go_wp2
        have HALL : Hid (∀ f ∈ fs, fErr f = 0) := Lib.hid (fun f hf => by
          obtain ⟨j, hj, hj2⟩ := List.getElem_of_mem hf
          have := HFE.out j (by omega)
          rw [show fs.getD j [] = f from by simp [hj, hj2]] at this
          exact this)
        subst hkf
        obtain ⟨hok, h401⟩ := HFIN.out HRO.out HALL.out
        have HOK := Lib.hid hok
        have hln := HLN.out
        have HBF2 : Hid (bf = if 200 < (canonF (catK fs fs.length ++ [ln])).length then [] else canonF (catK fs fs.length ++ [ln])) := Lib.hid (by
          rw [HBF.out, HRO.out, if_neg (by decide), if_neg (fun ⟨f, hf, hz⟩ => hz (HALL.out f hf))])
        clear hok
        go_region
        have HBXz := Lib.hid ((HBXr.out.setX (endK fs fs.length 0)).setY (endK fs fs.length 1))
        have HOz : Hid (((wr.setCell ⟨w.heap.size, 4, none⟩ (.int .i64 (endK fs fs.length 0))).setCell ⟨w.heap.size, 5, none⟩ (.int .i64 (endK fs fs.length 1))).drew.ownsRow (G + 1) 62 6 u7 (catK fs fs.length).length (nds (catK fs fs.length))) :=
          Lib.hid (ownsRow_setCell_below (ownsRow_setCell_below HO.out (by show w.heap.size < G + 1; omega) _) (by show w.heap.size < G + 1; omega) _)
        have HBz : Hid (Below w.heap.size w ((wr.setCell ⟨w.heap.size, 4, none⟩ (.int .i64 (endK fs fs.length 0))).setCell ⟨w.heap.size, 5, none⟩ (.int .i64 (endK fs fs.length 1))).drew) :=
          Lib.hid (((HB3.out.trans (HB.out.mono (Nat.le_of_lt hwG))).setCell (by show w.heap.size ≤ w.heap.size; omega) _).setCell (by show w.heap.size ≤ w.heap.size; omega) _).drew
        have hsz : G < ((wr.setCell ⟨w.heap.size, 4, none⟩ (.int .i64 (endK fs fs.length 0))).setCell ⟨w.heap.size, 5, none⟩ (.int .i64 (endK fs fs.length 1))).drew.heap.size := by show G < ((wr.setCell _ _).setCell _ _).heap.size; simpa using hGr
        have hbz2 : Box ((wr.setCell ⟨w.heap.size, 4, none⟩ (.int .i64 (endK fs fs.length 0))).setCell ⟨w.heap.size, 5, none⟩ (.int .i64 (endK fs fs.length 1))).drew w.heap.size { n with x := endK fs fs.length 0, y := endK fs fs.length 1 } := HBXz.out
        rw [← hln] at hbz2
        obtain ⟨y0, y1, y2, y3, y4, y5, _⟩ := hbz2
        have HLX := Lib.hid hln
        clear hln b0 b1 b2 b3 b4 b5 bf4 bf5 e0 e1 HBXz hngw hngw2
        generalize ((wr.setCell ⟨w.heap.size, 4, none⟩ (.int .i64 (endK fs fs.length 0))).setCell ⟨w.heap.size, 5, none⟩ (.int .i64 (endK fs fs.length 1))).drew = wz at *
        generalize hcat : catK fs fs.length = L at *
        have hL401 : L.length ≤ 400 := by have := h401; rw [List.length_append] at this; simp at this; omega
        go_wp2_with (at_builtin; refine wp_appN ln _ rfl _ _ rfl (G + 1) _ _ rfl (HOz.out.alloc _) rfl ?k1 ?k2 ?k3 ?_)
        case k1 =>
          intro j u hj
          have hh := heap_alloc_new wz (.cells #[.int .i64 ln.op, .int .i64 ln.i, .int .i64 ln.e, .int .i64 ln.g, .int .i64 ln.x, .int .i64 ln.y] 62)
          have := Lib.cell_of_heap hh j
          rw [this, ← hj]
          simp [ndC]
        case k2 => omega
        case k3 => simp; omega
        · intro v7 w7 hown7 hgrow
          obtain ⟨A7, c7, rfl⟩ := own_slK hown7
          have HR7 := Lib.hid (Reads.of_own hown7)
          have HB7 : Hid (Below w.heap.size w w7) := Lib.hid ((HBz.out.alloc (by have := HBz.out.size; omega) _).grown hgrow (by have := HBz.out.size; simp; omega) (fun g hg => by have := (HOz.out.lt g hg).1; omega))
          have HCN := Lib.hid (pCanon_any (L ++ [ln]) HOK.out A7 (L.length + 1) c7 w7 HR7.out (by omega))
          clear hown7 hgrow y0 y1 y2 y3 y4 y5
          generalize canonF (L ++ [ln]) = q at *
          go_wp2_with fail
          refine (HCN.out).mono ?_
          rintro e w8 ⟨A8, c8, rfl, hR8, hb8⟩
          have HR8 := Lib.hid hR8
          have HB8 := Lib.hid (HB7.out.trans (hb8.mono HB7.out.size))
          clear hR8 hb8
          by_cases h2 : 200 < q.length
          · have hd : decide (200 < (q.length : Int)) = true := decide_eq_true (by omega)
            have hd2 : decide (200 < q.length) = true := decide_eq_true h2
            have HE : Hid (bf = []) := Lib.hid (by rw [HBF2.out, if_pos h2])
            have HE2 : bf = [] := HE.out
            subst HE2
            clear h2
            go_wp2
            go_ret
            exact ⟨none, 0, rfl, Reads.none_, HB8.out⟩
          · have hd : decide (200 < (q.length : Int)) = false := decide_eq_false (by omega)
            have hd2 : decide (200 < q.length) = false := decide_eq_false h2
            have HE : Hid (bf = q) := Lib.hid (by rw [HBF2.out, if_neg h2])
            have HE2 : bf = q := HE.out
            subst HE2
            clear h2
            go_wp2
            go_ret
            exact ⟨A8, c8, rfl, HR8.out, HB8.out⟩
end Go.Proofs.YtjpmhbnikoggaaaDoor
/- Layer 5: the constructors of the program. -/
namespace Go.Proofs.YtjpmhbnikoggaaaDoor
open Go.RowKit Go.Proofs.Ws Go.Maps
theorem shiftN_ops {s k : Nat} {n : Nd} (h : opsOk n k) : opsOk (shiftN s n) (s + k) := by
  obtain ⟨h1, h2⟩ := h
  unfold opsOk shiftN
  dsimp only
  constructor
  · by_cases hx : usesX n.op = true
    · rw [if_pos hx] at h1 ⊢
      rw [if_pos hx]; omega
    · rw [if_neg hx] at h1 ⊢
      rw [if_neg hx]; exact h1
  · by_cases hy : usesY n.op = true
    · rw [if_pos hy] at h2 ⊢
      rw [if_pos hy]; omega
    · rw [if_neg hy] at h2 ⊢
      rw [if_neg hy]; exact h2
theorem catK_ok (fs : List (List Nd)) (h : ∀ f ∈ fs, fErr f = 0) : ∀ k, k ≤ fs.length → opsL (catK fs k) ∧ (∀ n ∈ catK fs k, fldOk n) ∧ (catK fs k).length ≤ 200 * k := by
  intro k
  induction k with
  | zero => intro _; exact ⟨fun i hi => absurd hi (by simp [catK, catS]), fun n hn => absurd hn (by simp [catK, catS]), by simp [catK, catS]⟩
  | succ k ih =>
    intro hk
    obtain ⟨i1, i2, i3⟩ := ih (by omega)
    have hz : fErr (fs.getD k []) = 0 := by
      rw [show fs.getD k [] = fs[k] from by simp [show k < fs.length by omega]]
      exact h _ (List.getElem_mem _)
    rw [catK_succ fs k (by omega)]
    have h2 := (fErr_ok hz).2.1
    have hf := fErr_fld hz
    have ho := fErr_ops hz
    generalize fs.getD k [] = f at *
    generalize catK fs k = l at *
    refine ⟨fun i hi => ?_, fun n hn => ?_, by rw [List.length_append, List.length_map]; omega⟩
    · rw [List.length_append, List.length_map] at hi
      by_cases e : i < l.length
      · rw [List.getD_eq_getElem?_getD, List.getElem?_append_left e, ← List.getD_eq_getElem?_getD]
        exact i1 i e
      · have hi2 : i - l.length < f.length := by omega
        have e2 : (l ++ f.map (shiftN l.length)).getD i nd0 = shiftN l.length (f.getD (i - l.length) nd0) := by
          rw [List.getD_eq_getElem?_getD, List.getElem?_append_right (by omega), List.getElem?_map]
          simp [hi2]
        rw [e2]
        have := shiftN_ops (s := l.length) (ho (i - l.length) hi2)
        rw [show l.length + (i - l.length) = i from by omega] at this
        exact this
    · rcases List.mem_append.1 hn with hn | hn
      · exact i2 n hn
      · obtain ⟨m, hm, rfl⟩ := List.mem_map.1 hn
        exact hf m hm
theorem snoc_ok {l : List Nd} {n : Nd} (h1 : opsL l) (h2 : ∀ m ∈ l, fldOk m) (hn : opsOk n l.length) (hf : fldOk n) : OkL (l ++ [n]) := by
  have hlen : (l ++ [n]).length = l.length + 1 := by simp
  have key : ∀ i, i < (l ++ [n]).length → opsOk ((l ++ [n]).getD i nd0) i ∧ fldOk ((l ++ [n]).getD i nd0) := by
    intro i hi
    by_cases e : i < l.length
    · rw [List.getD_eq_getElem?_getD, List.getElem?_append_left e, ← List.getD_eq_getElem?_getD]
      exact ⟨h1 i e, h2 _ (getD_mem e)⟩
    · have e2 : i = l.length := by omega
      subst e2
      rw [getD_some (n := n) (by simp)]
      exact ⟨hn, hf⟩
  exact ⟨by simp, fun i hi => (key i hi).1, fun i hi => NdR_of ((nodeErr_iff _ i).2 (key i hi))⟩
theorem catK_1 (f : List Nd) : (catK [f] 1).length = f.length := by simp [catK, catS]
theorem catK_2 (f g : List Nd) : (catK [f, g] 2).length = f.length + g.length := by simp [catK, catS]
theorem fin_0 (n : Nd) (hk : known n.op = true) (hz : (n.op = 3 ∨ hasAgent n.op = true ∨ n.op = 17 ∨ n.i = 0) ∧ (n.op = 17 ∨ n.e = 0) ∧ (hasGroup n.op = true ∨ n.g = 0)) (hx : n.x = 0) (hy : n.y = 0) (hux : usesX n.op = false) (huy : usesY n.op = false) :
    rangeOk n = true → (∀ f ∈ ([] : List (List Nd)), fErr f = 0) → OkL (catK [] ([] : List (List Nd)).length ++ [lastN n []]) ∧ (catK [] ([] : List (List Nd)).length ++ [lastN n []]).length ≤ 401 := by
  intro hr h
  have hopn : opsOk n 0 := ⟨by rw [if_neg (by rw [hux]; decide)]; exact hx, by rw [if_neg (by rw [huy]; decide)]; exact hy⟩
  exact ⟨snoc_ok (l := []) (fun i hi => absurd hi (by simp)) (fun m hm => absurd hm (by simp)) hopn ⟨hk, hz, hr⟩, by simp [catK, catS]⟩
theorem fin_1 (n : Nd) (f : List Nd) (hk : known n.op = true) (hz : (n.op = 3 ∨ hasAgent n.op = true ∨ n.op = 17 ∨ n.i = 0) ∧ (n.op = 17 ∨ n.e = 0) ∧ (hasGroup n.op = true ∨ n.g = 0)) (hy : n.y = 0) (hux : usesX n.op = true) (huy : usesY n.op = false) :
    rangeOk n = true → (∀ g ∈ [f], fErr g = 0) → OkL (catK [f] [f].length ++ [lastN n [f]]) ∧ (catK [f] [f].length ++ [lastN n [f]]).length ≤ 401 := by
  intro hr h
  have hf := h f (by simp)
  have hne : f.length ≠ 0 := by simpa using (fErr_ok hf).1
  obtain ⟨h1, h2, h3⟩ := catK_ok [f] h 1 (by simp)
  have hl := catK_1 f
  refine ⟨snoc_ok h1 h2 ⟨?_, ?_⟩ ⟨hk, hz, hr⟩, by rw [List.length_append]; show (catK [f] 1).length + 1 ≤ 401; omega⟩
  · show if usesX n.op = true then 0 ≤ (f.length : Int) - 1 ∧ (f.length : Int) - 1 < ((catK [f] 1).length : Int) else _
    rw [if_pos hux]; omega
  · show if usesY n.op = true then _ else n.y = 0
    rw [if_neg (by rw [huy]; decide)]; exact hy
theorem fin_2 (n : Nd) (f g : List Nd) (hk : known n.op = true) (hz : (n.op = 3 ∨ hasAgent n.op = true ∨ n.op = 17 ∨ n.i = 0) ∧ (n.op = 17 ∨ n.e = 0) ∧ (hasGroup n.op = true ∨ n.g = 0)) (hux : usesX n.op = true) (huy : usesY n.op = true) :
    rangeOk n = true → (∀ h ∈ [f, g], fErr h = 0) → OkL (catK [f, g] [f, g].length ++ [lastN n [f, g]]) ∧ (catK [f, g] [f, g].length ++ [lastN n [f, g]]).length ≤ 401 := by
  intro hr h
  have hf := h f (by simp)
  have hg := h g (by simp)
  have hne : f.length ≠ 0 := by simpa using (fErr_ok hf).1
  have hne2 : g.length ≠ 0 := by simpa using (fErr_ok hg).1
  obtain ⟨h1, h2, h3⟩ := catK_ok [f, g] h 2 (by simp)
  have hl := catK_2 f g
  refine ⟨snoc_ok h1 h2 ⟨?_, ?_⟩ ⟨hk, hz, hr⟩, by rw [List.length_append]; show (catK [f, g] 2).length + 1 ≤ 401; omega⟩
  · show if usesX n.op = true then 0 ≤ (f.length : Int) - 1 ∧ (f.length : Int) - 1 < ((catK [f, g] 2).length : Int) else _
    rw [if_pos hux]; omega
  · show if usesY n.op = true then 0 ≤ (f.length + g.length : Int) - 1 ∧ (f.length + g.length : Int) - 1 < ((catK [f, g] 2).length : Int) else _
    rw [if_pos huy]; omega
theorem reads_sl1 (W : World) (A : Option Addr) (n c : Nat) : Reads (W.alloc (.cells #[.slice A n c] 26)) (W.alloc (.cells #[.slice A n c] 26)).heap.size 1 (some ⟨W.heap.size, 0, none⟩) 1 [.slice A n c] := by
  refine ⟨rfl, fun _ => ⟨_, rfl, by simp, fun j u hj => ?_⟩⟩
  have hh := heap_alloc_new W (.cells #[.slice A n c] 26)
  rw [addr_zero, Lib.cell_of_heap hh, ← hj]
  simp
theorem reads_sl2 (W : World) (A A2 : Option Addr) (n c n2 c2 : Nat) : Reads (W.alloc (.cells #[.slice A n c, .slice A2 n2 c2] 26)) (W.alloc (.cells #[.slice A n c, .slice A2 n2 c2] 26)).heap.size 1 (some ⟨W.heap.size, 0, none⟩) 2 [.slice A n c, .slice A2 n2 c2] := by
  refine ⟨rfl, fun _ => ⟨_, rfl, by simp, fun j u hj => ?_⟩⟩
  have hh := heap_alloc_new W (.cells #[.slice A n c, .slice A2 n2 c2] 26)
  rw [addr_zero, Lib.cell_of_heap hh, ← hj]
  simp
/-- build at one operand, behind the making of the operands' slice -/
theorem build_1 (n : Nd) (f : List Nd) (A : Option Addr) (c : Nat) (w : World) (hx : n.x = 0) (hy : n.y = 0) (hR : Reads w w.heap.size 6 A f.length (nds f)) (hm : f.length ≤ maxLen)
    (hfin : rangeOk n = true → (∀ g ∈ [f], fErr g = 0) → OkL (catK [f] [f].length ++ [lastN n [f]]) ∧ (catK [f] [f].length ++ [lastN n [f]]).length ≤ 401) :
    Calls Tryd.prog 37 #[nv n, .slice (some ⟨w.heap.size, 0, none⟩) 1 1] (w.alloc (.cells #[.slice A f.length c] 26)) fun e w' => ∃ A' c', e = .returned (.slice A' (buildF n [f]).length c') ∧ Reads w' w'.heap.size 6 A' (buildF n [f]).length (nds (buildF n [f])) ∧ Below w.heap.size w w' := by
  have hb : Below w.heap.size w (w.alloc (.cells #[.slice A f.length c] 26)) := (Below.refl _ w).alloc (Nat.le_refl _) _
  refine (pBuild_any n [f] [.slice A f.length c] (some ⟨w.heap.size, 0, none⟩) 1 _ hx hy (by simp) (reads_sl1 w A f.length c) ?_ hfin).mono ?_
  · intro j hj
    have hj0 : j = 0 := by simpa using hj
    subst hj0
    exact ⟨A, c, rfl, (hR.below hb).more hb.size, hm⟩
  · rintro e w' ⟨A', c', rfl, h1, h2⟩
    exact ⟨A', c', rfl, h1, hb.trans (h2.mono hb.size)⟩
theorem build_2 (n : Nd) (f g : List Nd) (A A2 : Option Addr) (c c2 : Nat) (w : World) (hx : n.x = 0) (hy : n.y = 0) (hR : Reads w w.heap.size 6 A f.length (nds f)) (hR2 : Reads w w.heap.size 6 A2 g.length (nds g)) (hm : f.length ≤ maxLen) (hm2 : g.length ≤ maxLen)
    (hfin : rangeOk n = true → (∀ h ∈ [f, g], fErr h = 0) → OkL (catK [f, g] [f, g].length ++ [lastN n [f, g]]) ∧ (catK [f, g] [f, g].length ++ [lastN n [f, g]]).length ≤ 401) :
    Calls Tryd.prog 37 #[nv n, .slice (some ⟨w.heap.size, 0, none⟩) 2 2] (w.alloc (.cells #[.slice A f.length c, .slice A2 g.length c2] 26)) fun e w' => ∃ A' c', e = .returned (.slice A' (buildF n [f, g]).length c') ∧ Reads w' w'.heap.size 6 A' (buildF n [f, g]).length (nds (buildF n [f, g])) ∧ Below w.heap.size w w' := by
  have hb : Below w.heap.size w (w.alloc (.cells #[.slice A f.length c, .slice A2 g.length c2] 26)) := (Below.refl _ w).alloc (Nat.le_refl _) _
  refine (pBuild_any n [f, g] [.slice A f.length c, .slice A2 g.length c2] (some ⟨w.heap.size, 0, none⟩) 2 _ hx hy (by simp) (reads_sl2 w A A2 f.length c g.length c2) ?_ hfin).mono ?_
  · intro j hj
    have hj2 : j = 0 ∨ j = 1 := by simp at hj; omega
    rcases hj2 with rfl | rfl
    · exact ⟨A, c, rfl, (hR.below hb).more hb.size, hm⟩
    · exact ⟨A2, c2, rfl, (hR2.below hb).more hb.size, hm2⟩
  · rintro e w' ⟨A', c', rfl, h1, h2⟩
    exact ⟨A', c', rfl, h1, hb.trans (h2.mono hb.size)⟩
set_option maxRecDepth 100000 in
theorem pTrue_any (w : World) :
    Calls Tryd.prog 30 #[] w fun e w' => ∃ A' c', e = .returned (.slice A' (buildF ⟨1, 0, 0, 0, 0, 0⟩ []).length c') ∧ Reads w' w'.heap.size 6 A' (buildF ⟨1, 0, 0, 0, 0, 0⟩ []).length (nds (buildF ⟨1, 0, 0, 0, 0, 0⟩ [])) ∧ Below w.heap.size w w' := by
  have HC := Lib.hid (pBuild_any ⟨1, 0, 0, 0, 0, 0⟩ [] [] none 0 w rfl rfl (by simp) Reads.none_ (fun j hj => absurd hj (by simp)) (fin_0 ⟨1, 0, 0, 0, 0, 0⟩ rfl ⟨Or.inr (Or.inr (Or.inr rfl)), Or.inr rfl, Or.inr rfl⟩ rfl rfl rfl rfl))
  unfold nv at HC
  generalize buildF ⟨1, 0, 0, 0, 0, 0⟩ [] = q at *
  dsimp only at HC
  go_enter Tryd.func30, Tryd.ntmps30
  go_wp2_with fail
  refine (HC.out).mono ?_
  rintro e w2 ⟨A', c', rfl, hR2, hb2⟩
  have HR2 := Lib.hid hR2
  have HB2 := Lib.hid hb2
  clear hR2 hb2
  go_wp2
  go_ret
  exact ⟨A', c', rfl, HR2.out, HB2.out⟩
set_option maxRecDepth 100000 in
theorem pFact_any (zi : Int) (w : World) :
    Calls Tryd.prog 28 #[.int .i64 zi] w fun e w' => ∃ A' c', e = .returned (.slice A' (buildF ⟨3, zi, 0, 0, 0, 0⟩ []).length c') ∧ Reads w' w'.heap.size 6 A' (buildF ⟨3, zi, 0, 0, 0, 0⟩ []).length (nds (buildF ⟨3, zi, 0, 0, 0, 0⟩ [])) ∧ Below w.heap.size w w' := by
  have HC := Lib.hid (pBuild_any ⟨3, zi, 0, 0, 0, 0⟩ [] [] none 0 w rfl rfl (by simp) Reads.none_ (fun j hj => absurd hj (by simp)) (fin_0 ⟨3, zi, 0, 0, 0, 0⟩ rfl ⟨Or.inl rfl, Or.inr rfl, Or.inr rfl⟩ rfl rfl rfl rfl))
  unfold nv at HC
  generalize buildF ⟨3, zi, 0, 0, 0, 0⟩ [] = q at *
  dsimp only at HC
  go_enter Tryd.func28, Tryd.ntmps28
  go_wp2_with fail
  refine (HC.out).mono ?_
  rintro e w2 ⟨A', c', rfl, hR2, hb2⟩
  have HR2 := Lib.hid hR2
  have HB2 := Lib.hid hb2
  clear hR2 hb2
  go_wp2
  go_ret
  exact ⟨A', c', rfl, HR2.out, HB2.out⟩
set_option maxRecDepth 100000 in
theorem pNot_any (f : List Nd) (Af : Option Addr) (nf cf : Nat) (w : World) (hRf : Reads w w.heap.size 6 Af nf (nds f)) (hmf : nf ≤ maxLen) :
    Calls Tryd.prog 14 #[.slice Af nf cf] w fun e w' => ∃ A' c', e = .returned (.slice A' (buildF ⟨4, 0, 0, 0, 0, 0⟩ [f]).length c') ∧ Reads w' w'.heap.size 6 A' (buildF ⟨4, 0, 0, 0, 0, 0⟩ [f]).length (nds (buildF ⟨4, 0, 0, 0, 0, 0⟩ [f])) ∧ Below w.heap.size w w' := by
  have hlf := hRf.nd_len
  subst hlf
  have HC := Lib.hid (build_1 ⟨4, 0, 0, 0, 0, 0⟩ f Af cf w rfl rfl hRf hmf (fin_1 ⟨4, 0, 0, 0, 0, 0⟩ f rfl ⟨Or.inr (Or.inr (Or.inr rfl)), Or.inr rfl, Or.inr rfl⟩ rfl rfl rfl))
  unfold nv at HC
  generalize buildF ⟨4, 0, 0, 0, 0, 0⟩ [f] = q at *
  dsimp only at HC
  go_enter Tryd.func14, Tryd.ntmps14
  go_wp2_with fail
  refine (HC.out).mono ?_
  rintro e w2 ⟨A', c', rfl, hR2, hb2⟩
  have HR2 := Lib.hid hR2
  have HB2 := Lib.hid hb2
  clear hR2 hb2
  go_wp2
  go_ret
  exact ⟨A', c', rfl, HR2.out, HB2.out⟩
set_option maxRecDepth 100000 in
theorem pAnd_any (f : List Nd) (Af : Option Addr) (nf cf : Nat) (h : List Nd) (Ah : Option Addr) (nh ch : Nat) (w : World) (hRf : Reads w w.heap.size 6 Af nf (nds f)) (hmf : nf ≤ maxLen) (hRh : Reads w w.heap.size 6 Ah nh (nds h)) (hmh : nh ≤ maxLen) :
    Calls Tryd.prog 25 #[.slice Af nf cf, .slice Ah nh ch] w fun e w' => ∃ A' c', e = .returned (.slice A' (buildF ⟨5, 0, 0, 0, 0, 0⟩ [f, h]).length c') ∧ Reads w' w'.heap.size 6 A' (buildF ⟨5, 0, 0, 0, 0, 0⟩ [f, h]).length (nds (buildF ⟨5, 0, 0, 0, 0, 0⟩ [f, h])) ∧ Below w.heap.size w w' := by
  have hlf := hRf.nd_len
  subst hlf
  have hlh := hRh.nd_len
  subst hlh
  have HC := Lib.hid (build_2 ⟨5, 0, 0, 0, 0, 0⟩ f h Af Ah cf ch w rfl rfl hRf hRh hmf hmh (fin_2 ⟨5, 0, 0, 0, 0, 0⟩ f h rfl ⟨Or.inr (Or.inr (Or.inr rfl)), Or.inr rfl, Or.inr rfl⟩ rfl rfl))
  unfold nv at HC
  generalize buildF ⟨5, 0, 0, 0, 0, 0⟩ [f, h] = q at *
  dsimp only at HC
  go_enter Tryd.func25, Tryd.ntmps25
  go_wp2_with fail
  refine (HC.out).mono ?_
  rintro e w2 ⟨A', c', rfl, hR2, hb2⟩
  have HR2 := Lib.hid hR2
  have HB2 := Lib.hid hb2
  clear hR2 hb2
  go_wp2
  go_ret
  exact ⟨A', c', rfl, HR2.out, HB2.out⟩
set_option maxRecDepth 100000 in
theorem pOr_any (f : List Nd) (Af : Option Addr) (nf cf : Nat) (h : List Nd) (Ah : Option Addr) (nh ch : Nat) (w : World) (hRf : Reads w w.heap.size 6 Af nf (nds f)) (hmf : nf ≤ maxLen) (hRh : Reads w w.heap.size 6 Ah nh (nds h)) (hmh : nh ≤ maxLen) :
    Calls Tryd.prog 26 #[.slice Af nf cf, .slice Ah nh ch] w fun e w' => ∃ A' c', e = .returned (.slice A' (buildF ⟨6, 0, 0, 0, 0, 0⟩ [f, h]).length c') ∧ Reads w' w'.heap.size 6 A' (buildF ⟨6, 0, 0, 0, 0, 0⟩ [f, h]).length (nds (buildF ⟨6, 0, 0, 0, 0, 0⟩ [f, h])) ∧ Below w.heap.size w w' := by
  have hlf := hRf.nd_len
  subst hlf
  have hlh := hRh.nd_len
  subst hlh
  have HC := Lib.hid (build_2 ⟨6, 0, 0, 0, 0, 0⟩ f h Af Ah cf ch w rfl rfl hRf hRh hmf hmh (fin_2 ⟨6, 0, 0, 0, 0, 0⟩ f h rfl ⟨Or.inr (Or.inr (Or.inr rfl)), Or.inr rfl, Or.inr rfl⟩ rfl rfl))
  unfold nv at HC
  generalize buildF ⟨6, 0, 0, 0, 0, 0⟩ [f, h] = q at *
  dsimp only at HC
  go_enter Tryd.func26, Tryd.ntmps26
  go_wp2_with fail
  refine (HC.out).mono ?_
  rintro e w2 ⟨A', c', rfl, hR2, hb2⟩
  have HR2 := Lib.hid hR2
  have HB2 := Lib.hid hb2
  clear hR2 hb2
  go_wp2
  go_ret
  exact ⟨A', c', rfl, HR2.out, HB2.out⟩
set_option maxRecDepth 100000 in
theorem pImp_any (f : List Nd) (Af : Option Addr) (nf cf : Nat) (h : List Nd) (Ah : Option Addr) (nh ch : Nat) (w : World) (hRf : Reads w w.heap.size 6 Af nf (nds f)) (hmf : nf ≤ maxLen) (hRh : Reads w w.heap.size 6 Ah nh (nds h)) (hmh : nh ≤ maxLen) :
    Calls Tryd.prog 24 #[.slice Af nf cf, .slice Ah nh ch] w fun e w' => ∃ A' c', e = .returned (.slice A' (buildF ⟨7, 0, 0, 0, 0, 0⟩ [f, h]).length c') ∧ Reads w' w'.heap.size 6 A' (buildF ⟨7, 0, 0, 0, 0, 0⟩ [f, h]).length (nds (buildF ⟨7, 0, 0, 0, 0, 0⟩ [f, h])) ∧ Below w.heap.size w w' := by
  have hlf := hRf.nd_len
  subst hlf
  have hlh := hRh.nd_len
  subst hlh
  have HC := Lib.hid (build_2 ⟨7, 0, 0, 0, 0, 0⟩ f h Af Ah cf ch w rfl rfl hRf hRh hmf hmh (fin_2 ⟨7, 0, 0, 0, 0, 0⟩ f h rfl ⟨Or.inr (Or.inr (Or.inr rfl)), Or.inr rfl, Or.inr rfl⟩ rfl rfl))
  unfold nv at HC
  generalize buildF ⟨7, 0, 0, 0, 0, 0⟩ [f, h] = q at *
  dsimp only at HC
  go_enter Tryd.func24, Tryd.ntmps24
  go_wp2_with fail
  refine (HC.out).mono ?_
  rintro e w2 ⟨A', c', rfl, hR2, hb2⟩
  have HR2 := Lib.hid hR2
  have HB2 := Lib.hid hb2
  clear hR2 hb2
  go_wp2
  go_ret
  exact ⟨A', c', rfl, HR2.out, HB2.out⟩
set_option maxRecDepth 100000 in
theorem pIff_any (f : List Nd) (Af : Option Addr) (nf cf : Nat) (h : List Nd) (Ah : Option Addr) (nh ch : Nat) (w : World) (hRf : Reads w w.heap.size 6 Af nf (nds f)) (hmf : nf ≤ maxLen) (hRh : Reads w w.heap.size 6 Ah nh (nds h)) (hmh : nh ≤ maxLen) :
    Calls Tryd.prog 27 #[.slice Af nf cf, .slice Ah nh ch] w fun e w' => ∃ A' c', e = .returned (.slice A' (buildF ⟨8, 0, 0, 0, 0, 0⟩ [f, h]).length c') ∧ Reads w' w'.heap.size 6 A' (buildF ⟨8, 0, 0, 0, 0, 0⟩ [f, h]).length (nds (buildF ⟨8, 0, 0, 0, 0, 0⟩ [f, h])) ∧ Below w.heap.size w w' := by
  have hlf := hRf.nd_len
  subst hlf
  have hlh := hRh.nd_len
  subst hlh
  have HC := Lib.hid (build_2 ⟨8, 0, 0, 0, 0, 0⟩ f h Af Ah cf ch w rfl rfl hRf hRh hmf hmh (fin_2 ⟨8, 0, 0, 0, 0, 0⟩ f h rfl ⟨Or.inr (Or.inr (Or.inr rfl)), Or.inr rfl, Or.inr rfl⟩ rfl rfl))
  unfold nv at HC
  generalize buildF ⟨8, 0, 0, 0, 0, 0⟩ [f, h] = q at *
  dsimp only at HC
  go_enter Tryd.func27, Tryd.ntmps27
  go_wp2_with fail
  refine (HC.out).mono ?_
  rintro e w2 ⟨A', c', rfl, hR2, hb2⟩
  have HR2 := Lib.hid hR2
  have HB2 := Lib.hid hb2
  clear hR2 hb2
  go_wp2
  go_ret
  exact ⟨A', c', rfl, HR2.out, HB2.out⟩
set_option maxRecDepth 100000 in
theorem pKnow_any (zi : Int) (f : List Nd) (Af : Option Addr) (nf cf : Nat) (w : World) (hRf : Reads w w.heap.size 6 Af nf (nds f)) (hmf : nf ≤ maxLen) :
    Calls Tryd.prog 15 #[.int .i64 zi, .slice Af nf cf] w fun e w' => ∃ A' c', e = .returned (.slice A' (buildF ⟨9, zi, 0, 0, 0, 0⟩ [f]).length c') ∧ Reads w' w'.heap.size 6 A' (buildF ⟨9, zi, 0, 0, 0, 0⟩ [f]).length (nds (buildF ⟨9, zi, 0, 0, 0, 0⟩ [f])) ∧ Below w.heap.size w w' := by
  have hlf := hRf.nd_len
  subst hlf
  have HC := Lib.hid (build_1 ⟨9, zi, 0, 0, 0, 0⟩ f Af cf w rfl rfl hRf hmf (fin_1 ⟨9, zi, 0, 0, 0, 0⟩ f rfl ⟨Or.inr (Or.inl rfl), Or.inr rfl, Or.inr rfl⟩ rfl rfl rfl))
  unfold nv at HC
  generalize buildF ⟨9, zi, 0, 0, 0, 0⟩ [f] = q at *
  dsimp only at HC
  go_enter Tryd.func15, Tryd.ntmps15
  go_wp2_with fail
  refine (HC.out).mono ?_
  rintro e w2 ⟨A', c', rfl, hR2, hb2⟩
  have HR2 := Lib.hid hR2
  have HB2 := Lib.hid hb2
  clear hR2 hb2
  go_wp2
  go_ret
  exact ⟨A', c', rfl, HR2.out, HB2.out⟩
set_option maxRecDepth 100000 in
theorem pPoss_any (zi : Int) (f : List Nd) (Af : Option Addr) (nf cf : Nat) (w : World) (hRf : Reads w w.heap.size 6 Af nf (nds f)) (hmf : nf ≤ maxLen) :
    Calls Tryd.prog 13 #[.int .i64 zi, .slice Af nf cf] w fun e w' => ∃ A' c', e = .returned (.slice A' (buildF ⟨10, zi, 0, 0, 0, 0⟩ [f]).length c') ∧ Reads w' w'.heap.size 6 A' (buildF ⟨10, zi, 0, 0, 0, 0⟩ [f]).length (nds (buildF ⟨10, zi, 0, 0, 0, 0⟩ [f])) ∧ Below w.heap.size w w' := by
  have hlf := hRf.nd_len
  subst hlf
  have HC := Lib.hid (build_1 ⟨10, zi, 0, 0, 0, 0⟩ f Af cf w rfl rfl hRf hmf (fin_1 ⟨10, zi, 0, 0, 0, 0⟩ f rfl ⟨Or.inr (Or.inl rfl), Or.inr rfl, Or.inr rfl⟩ rfl rfl rfl))
  unfold nv at HC
  generalize buildF ⟨10, zi, 0, 0, 0, 0⟩ [f] = q at *
  dsimp only at HC
  go_enter Tryd.func13, Tryd.ntmps13
  go_wp2_with fail
  refine (HC.out).mono ?_
  rintro e w2 ⟨A', c', rfl, hR2, hb2⟩
  have HR2 := Lib.hid hR2
  have HB2 := Lib.hid hb2
  clear hR2 hb2
  go_wp2
  go_ret
  exact ⟨A', c', rfl, HR2.out, HB2.out⟩
set_option maxRecDepth 100000 in
theorem pEvery_any (zg : Int) (f : List Nd) (Af : Option Addr) (nf cf : Nat) (w : World) (hRf : Reads w w.heap.size 6 Af nf (nds f)) (hmf : nf ≤ maxLen) :
    Calls Tryd.prog 16 #[.int .i64 zg, .slice Af nf cf] w fun e w' => ∃ A' c', e = .returned (.slice A' (buildF ⟨11, 0, 0, zg, 0, 0⟩ [f]).length c') ∧ Reads w' w'.heap.size 6 A' (buildF ⟨11, 0, 0, zg, 0, 0⟩ [f]).length (nds (buildF ⟨11, 0, 0, zg, 0, 0⟩ [f])) ∧ Below w.heap.size w w' := by
  have hlf := hRf.nd_len
  subst hlf
  have HC := Lib.hid (build_1 ⟨11, 0, 0, zg, 0, 0⟩ f Af cf w rfl rfl hRf hmf (fin_1 ⟨11, 0, 0, zg, 0, 0⟩ f rfl ⟨Or.inr (Or.inr (Or.inr rfl)), Or.inr rfl, Or.inl rfl⟩ rfl rfl rfl))
  unfold nv at HC
  generalize buildF ⟨11, 0, 0, zg, 0, 0⟩ [f] = q at *
  dsimp only at HC
  go_enter Tryd.func16, Tryd.ntmps16
  go_wp2_with fail
  refine (HC.out).mono ?_
  rintro e w2 ⟨A', c', rfl, hR2, hb2⟩
  have HR2 := Lib.hid hR2
  have HB2 := Lib.hid hb2
  clear hR2 hb2
  go_wp2
  go_ret
  exact ⟨A', c', rfl, HR2.out, HB2.out⟩
set_option maxRecDepth 100000 in
theorem pDist_any (zg : Int) (f : List Nd) (Af : Option Addr) (nf cf : Nat) (w : World) (hRf : Reads w w.heap.size 6 Af nf (nds f)) (hmf : nf ≤ maxLen) :
    Calls Tryd.prog 17 #[.int .i64 zg, .slice Af nf cf] w fun e w' => ∃ A' c', e = .returned (.slice A' (buildF ⟨12, 0, 0, zg, 0, 0⟩ [f]).length c') ∧ Reads w' w'.heap.size 6 A' (buildF ⟨12, 0, 0, zg, 0, 0⟩ [f]).length (nds (buildF ⟨12, 0, 0, zg, 0, 0⟩ [f])) ∧ Below w.heap.size w w' := by
  have hlf := hRf.nd_len
  subst hlf
  have HC := Lib.hid (build_1 ⟨12, 0, 0, zg, 0, 0⟩ f Af cf w rfl rfl hRf hmf (fin_1 ⟨12, 0, 0, zg, 0, 0⟩ f rfl ⟨Or.inr (Or.inr (Or.inr rfl)), Or.inr rfl, Or.inl rfl⟩ rfl rfl rfl))
  unfold nv at HC
  generalize buildF ⟨12, 0, 0, zg, 0, 0⟩ [f] = q at *
  dsimp only at HC
  go_enter Tryd.func17, Tryd.ntmps17
  go_wp2_with fail
  refine (HC.out).mono ?_
  rintro e w2 ⟨A', c', rfl, hR2, hb2⟩
  have HR2 := Lib.hid hR2
  have HB2 := Lib.hid hb2
  clear hR2 hb2
  go_wp2
  go_ret
  exact ⟨A', c', rfl, HR2.out, HB2.out⟩
set_option maxRecDepth 100000 in
theorem pCommon_any (zg : Int) (f : List Nd) (Af : Option Addr) (nf cf : Nat) (h : List Nd) (Ah : Option Addr) (nh ch : Nat) (w : World) (hRf : Reads w w.heap.size 6 Af nf (nds f)) (hmf : nf ≤ maxLen) (hRh : Reads w w.heap.size 6 Ah nh (nds h)) (hmh : nh ≤ maxLen) :
    Calls Tryd.prog 19 #[.int .i64 zg, .slice Af nf cf, .slice Ah nh ch] w fun e w' => ∃ A' c', e = .returned (.slice A' (buildF ⟨13, 0, 0, zg, 0, 0⟩ [f, h]).length c') ∧ Reads w' w'.heap.size 6 A' (buildF ⟨13, 0, 0, zg, 0, 0⟩ [f, h]).length (nds (buildF ⟨13, 0, 0, zg, 0, 0⟩ [f, h])) ∧ Below w.heap.size w w' := by
  have hlf := hRf.nd_len
  subst hlf
  have hlh := hRh.nd_len
  subst hlh
  have HC := Lib.hid (build_2 ⟨13, 0, 0, zg, 0, 0⟩ f h Af Ah cf ch w rfl rfl hRf hRh hmf hmh (fin_2 ⟨13, 0, 0, zg, 0, 0⟩ f h rfl ⟨Or.inr (Or.inr (Or.inr rfl)), Or.inr rfl, Or.inl rfl⟩ rfl rfl))
  unfold nv at HC
  generalize buildF ⟨13, 0, 0, zg, 0, 0⟩ [f, h] = q at *
  dsimp only at HC
  go_enter Tryd.func19, Tryd.ntmps19
  go_wp2_with fail
  refine (HC.out).mono ?_
  rintro e w2 ⟨A', c', rfl, hR2, hb2⟩
  have HR2 := Lib.hid hR2
  have HB2 := Lib.hid hb2
  clear hR2 hb2
  go_wp2
  go_ret
  exact ⟨A', c', rfl, HR2.out, HB2.out⟩
set_option maxRecDepth 100000 in
theorem pSafe_any (zi : Int) (f : List Nd) (Af : Option Addr) (nf cf : Nat) (w : World) (hRf : Reads w w.heap.size 6 Af nf (nds f)) (hmf : nf ≤ maxLen) :
    Calls Tryd.prog 34 #[.int .i64 zi, .slice Af nf cf] w fun e w' => ∃ A' c', e = .returned (.slice A' (buildF ⟨15, zi, 0, 0, 0, 0⟩ [f]).length c') ∧ Reads w' w'.heap.size 6 A' (buildF ⟨15, zi, 0, 0, 0, 0⟩ [f]).length (nds (buildF ⟨15, zi, 0, 0, 0, 0⟩ [f])) ∧ Below w.heap.size w w' := by
  have hlf := hRf.nd_len
  subst hlf
  have HC := Lib.hid (build_1 ⟨15, zi, 0, 0, 0, 0⟩ f Af cf w rfl rfl hRf hmf (fin_1 ⟨15, zi, 0, 0, 0, 0⟩ f rfl ⟨Or.inr (Or.inl rfl), Or.inr rfl, Or.inr rfl⟩ rfl rfl rfl))
  unfold nv at HC
  generalize buildF ⟨15, zi, 0, 0, 0, 0⟩ [f] = q at *
  dsimp only at HC
  go_enter Tryd.func34, Tryd.ntmps34
  go_wp2_with fail
  refine (HC.out).mono ?_
  rintro e w2 ⟨A', c', rfl, hR2, hb2⟩
  have HR2 := Lib.hid hR2
  have HB2 := Lib.hid hb2
  clear hR2 hb2
  go_wp2
  go_ret
  exact ⟨A', c', rfl, HR2.out, HB2.out⟩
end Go.Proofs.YtjpmhbnikoggaaaDoor
