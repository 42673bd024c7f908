/- Layer 5: the program's renumber with the walk's own finish. -/
import Derived.Test.YthhkeobjjeldhaaGreatDoorJf
namespace Go.Proofs.YthhkeobjjeldhaaGreatDoor
open Go.RowKit Go.Proofs.Ws Go.Maps
set_option maxRecDepth 100000 in
set_option maxHeartbeats 4000000 in
theorem pFin_old (base bw bp bm c n i k : Nat) (A : Option Addr) (s : Wk) (w : World) (hi : i < n) (hkb : k ≤ 1000) (hS : PW w base bw bp bm A c n s) (hd : s.done.getD i none = some k) :
    Calls Tryz.prog 52 #[.pointer (some ⟨bw, 0, none⟩), .int .i64 i] w fun e w' => e = .returned (.int .i64 (k : Int)) ∧ w = w' := by
  have h3 := hS.pl
  have hc := hS.cells i hi
  rw [hd] at hc
  replace hc : w.cell? ⟨bp, i, none⟩ = some (.int .i64 ((k + 1 : Nat) : Int)) := hc
  have hk : (((k + 1 : Nat) : Int) == 0) = false := by simp; omega
  have hk2 : wrap64 ((k : Int) + 1 - 1) = (k : Int) := by rw [Int.add_sub_cancel]; unfold wrap64; omega
  clear hS hd
  go_enter Tryz.func52, Tryz.ntmps52
  go_wp2
  go_ret
  exact ⟨rfl, rfl⟩
theorem nodeInfo : (Tryz.prog.info? 34).map (fun i => i.size) = some 6 := by kernel_rfl
set_option maxRecDepth 100000 in
set_option maxHeartbeats 4000000 in
theorem pRen_0 (B base bw bp bm c n : Nat) (A : Option Addr) (f : List Nd) (s : Wk) (x : Nd) (w : World) (hS : PW w base bw bp bm A c n s) (hR : Reads w B 6 A n (nds f))
    (hB3 : B ≤ base) (ho : shO x.op = 0) :
    Calls Tryz.prog 63 #[nv x, .func (Fn.func 52) #[.pointer (some ⟨bw, 0, none⟩)] #[]] w fun e w' =>
      e = .returned (nv x) ∧ PW w' base bw bp bm A c n s ∧ Fp bw bp bm w w' := by
  have HS := Lib.hid hS
  have HR := Lib.hid hR
  have hB5 : B ≤ w.heap.size := Nat.le_trans hB3 hS.lb
  have HSH := Lib.hid (fun W => pShape_any x.op W)
  unfold shV shC at HSH
  rw [ho] at HSH
  unfold nv
  clear hS hR
  generalize shN x.op = q1 at *
  generalize shE x.op = q2 at *
  generalize shG x.op = q3 at *
  generalize known x.op = q4 at *
  clear ho
  go_enter Tryz.func63, Tryz.ntmps63
  go_wp2_with fail
  refine (HSH.out _).mono ?_
  rintro e w1 ⟨rfl, hb1⟩
  have HQ0 := Lib.hid (PQ.start HS.out HR.out hB5 x q1 q2 q3 0 hb1)
  clear hb1
  have hq3 := HQ0.out.cells
  obtain ⟨b0, b1, b2, b3, b4, b5, bf⟩ := HQ0.out.bx
  clear bf
  obtain ⟨z0, z1, z2, z3, z4, z5, zf⟩ := HQ0.out.zero
  have zf0 := zf 0
  have zf1 := zf 1
  have zf2 := zf 2
  have zf3 := zf 3
  have zf4 := zf 4
  have zf5 := zf 5
  clear zf
  go_wp2_with fail
  have HD := Lib.hid (HQ0.out.done (Nat.le_succ _) x)
  have HK := Lib.hid (putBox_block HQ0.out.rs x)
  refine bodyPost_ret (results_cell_row rfl _ _ (w.heap.size + 1) _ _ (0, 0) _ rfl HK.out Tryz.underlying34 rfl nodeInfo) rfl ?_
  exact ⟨rfl, HD.out⟩
set_option maxRecDepth 100000 in
set_option maxHeartbeats 4000000 in
theorem pRen_1 (B base bw bp bm c n : Nat) (A : Option Addr) (f : List Nd) (s s1 : Wk) (k1 : Nat) (x : Nd) (w : World) (hS : PW w base bw bp bm A c n s) (hR : Reads w B 6 A n (nds f))
    (hB1 : B ≤ bw) (hB2 : B ≤ bp) (hB4 : B ≤ bm) (hB3 : B ≤ base) (ho : shO x.op = 1)
    (HX : ∀ W, PW W base bw bp bm A c n s → Reads W B 6 A n (nds f) → Calls Tryz.prog 52 #[.pointer (some ⟨bw, 0, none⟩), .int .i64 x.x] W fun e W' => e = .returned (.int .i64 (k1 : Int)) ∧ PW W' base bw bp bm A c n s1 ∧ Fp bw bp bm W W') :
    Calls Tryz.prog 63 #[nv x, .func (Fn.func 52) #[.pointer (some ⟨bw, 0, none⟩)] #[]] w fun e w' =>
      e = .returned (nv { x with x := (k1 : Int) }) ∧ PW w' base bw bp bm A c n s1 ∧ Fp bw bp bm w w' := by
  have HS := Lib.hid hS
  have HR := Lib.hid hR
  have hB5 : B ≤ w.heap.size := Nat.le_trans hB3 hS.lb
  have HSH := Lib.hid (fun W => pShape_any x.op W)
  unfold shV shC at HSH
  rw [ho] at HSH
  replace HX := Lib.hid HX
  unfold nv
  clear hS hR
  generalize shN x.op = q1 at *
  generalize shE x.op = q2 at *
  generalize shG x.op = q3 at *
  generalize known x.op = q4 at *
  clear ho
  go_enter Tryz.func63, Tryz.ntmps63
  go_wp2_with fail
  refine (HSH.out _).mono ?_
  rintro e w1 ⟨rfl, hb1⟩
  have HQ0 := Lib.hid (PQ.start HS.out HR.out hB5 x q1 q2 q3 1 hb1)
  clear hb1
  have hq3 := HQ0.out.cells
  obtain ⟨b0, b1, b2, b3, b4, b5, bf⟩ := HQ0.out.bx
  clear bf
  go_wp2_with fail
  clear hq3 b0 b1 b2 b3 b4 b5
  generalize w1.alloc (.cells #[.int .i64 q1, .int .i64 q2, .int .i64 q3, .int .i64 1] 75) = w2 at *
  generalize w1.heap.size = g2 at *
  refine (HX.out _ HQ0.out.st HQ0.out.rd).mono ?_
  rintro e w3 ⟨rfl, hS1, hF1⟩
  have HQ1 := Lib.hid (HQ0.out.step hS1 hF1 hB1 hB2 hB4 hB3)
  clear hS1 hF1
  have HQ2 := Lib.hid (HQ1.out.set (HQ1.out.bx.setX (k1 : Int)) hB5)
  obtain ⟨b0, b1, b2, b3, b4, b5, bf⟩ := HQ1.out.bx
  have bf4 := bf 4
  have hq3 := HQ1.out.cells
  have hn02 := HQ1.out.n02
  clear bf
  obtain ⟨z0, z1, z2, z3, z4, z5, zf⟩ := HQ1.out.zero
  have zf0 := zf 0
  have zf1 := zf 1
  have zf2 := zf 2
  have zf3 := zf 3
  have zf4 := zf 4
  have zf5 := zf 5
  clear zf
  go_wp2_with fail
  have HD := Lib.hid (HQ2.out.done (Nat.le_succ _) { x with x := (k1 : Int) })
  have HK := Lib.hid (putBox_block HQ2.out.rs { x with x := (k1 : Int) })
  refine bodyPost_ret (results_cell_row rfl _ _ (w.heap.size + 1) _ _ (0, 0) _ rfl HK.out Tryz.underlying34 rfl nodeInfo) rfl ?_
  exact ⟨rfl, HD.out⟩
set_option maxRecDepth 100000 in
set_option maxHeartbeats 4000000 in
theorem pRen_2 (B base bw bp bm c n : Nat) (A : Option Addr) (f : List Nd) (s s1 s2 : Wk) (k1 k2 : Nat) (x : Nd) (w : World) (hS : PW w base bw bp bm A c n s) (hR : Reads w B 6 A n (nds f))
    (hB1 : B ≤ bw) (hB2 : B ≤ bp) (hB4 : B ≤ bm) (hB3 : B ≤ base) (ho : shO x.op = 2)
    (HX : ∀ W, PW W base bw bp bm A c n s → Reads W B 6 A n (nds f) → Calls Tryz.prog 52 #[.pointer (some ⟨bw, 0, none⟩), .int .i64 x.x] W fun e W' => e = .returned (.int .i64 (k1 : Int)) ∧ PW W' base bw bp bm A c n s1 ∧ Fp bw bp bm W W')
    (HY : ∀ W, PW W base bw bp bm A c n s1 → Reads W B 6 A n (nds f) → Calls Tryz.prog 52 #[.pointer (some ⟨bw, 0, none⟩), .int .i64 x.y] W fun e W' => e = .returned (.int .i64 (k2 : Int)) ∧ PW W' base bw bp bm A c n s2 ∧ Fp bw bp bm W W') :
    Calls Tryz.prog 63 #[nv x, .func (Fn.func 52) #[.pointer (some ⟨bw, 0, none⟩)] #[]] w fun e w' =>
      e = .returned (nv { x with x := (k1 : Int), y := (k2 : Int) }) ∧ PW w' base bw bp bm A c n s2 ∧ Fp bw bp bm w w' := by
  have HS := Lib.hid hS
  have HR := Lib.hid hR
  have hB5 : B ≤ w.heap.size := Nat.le_trans hB3 hS.lb
  have HSH := Lib.hid (fun W => pShape_any x.op W)
  unfold shV shC at HSH
  rw [ho] at HSH
  replace HX := Lib.hid HX
  replace HY := Lib.hid HY
  unfold nv
  clear hS hR
  generalize shN x.op = q1 at *
  generalize shE x.op = q2 at *
  generalize shG x.op = q3 at *
  generalize known x.op = q4 at *
  clear ho
  go_enter Tryz.func63, Tryz.ntmps63
  go_wp2_with fail
  refine (HSH.out _).mono ?_
  rintro e w1 ⟨rfl, hb1⟩
  have HQ0 := Lib.hid (PQ.start HS.out HR.out hB5 x q1 q2 q3 2 hb1)
  clear hb1
  have hq3 := HQ0.out.cells
  obtain ⟨b0, b1, b2, b3, b4, b5, bf⟩ := HQ0.out.bx
  clear bf
  go_wp2_with fail
  clear hq3 b0 b1 b2 b3 b4 b5
  generalize w1.alloc (.cells #[.int .i64 q1, .int .i64 q2, .int .i64 q3, .int .i64 2] 75) = w2 at *
  generalize w1.heap.size = g2 at *
  refine (HX.out _ HQ0.out.st HQ0.out.rd).mono ?_
  rintro e w3 ⟨rfl, hS1, hF1⟩
  have HQ1 := Lib.hid (HQ0.out.step hS1 hF1 hB1 hB2 hB4 hB3)
  clear hS1 hF1
  have HQ2 := Lib.hid (HQ1.out.set (HQ1.out.bx.setX (k1 : Int)) hB5)
  obtain ⟨b0, b1, b2, b3, b4, b5, bf⟩ := HQ1.out.bx
  have bf4 := bf 4
  have hq3 := HQ1.out.cells
  have hn02 := HQ1.out.n02
  clear bf
  go_wp2_with fail
  clear hq3 bf4 b0 b1 b2 b3 b4 b5
  generalize w3.setCell ⟨w.heap.size, 4, none⟩ (.int .i64 (k1 : Int)) = w4 at *
  refine (HY.out _ HQ2.out.st HQ2.out.rd).mono ?_
  rintro e w5 ⟨rfl, hS1, hF1⟩
  have HQ3 := Lib.hid (HQ2.out.step hS1 hF1 hB1 hB2 hB4 hB3)
  clear hS1 hF1
  have HQ4 := Lib.hid (HQ3.out.set (HQ3.out.bx.setY (k2 : Int)) hB5)
  obtain ⟨b0, b1, b2, b3, b4, b5, bf⟩ := HQ3.out.bx
  have bf5 := bf 5
  clear bf
  obtain ⟨z0, z1, z2, z3, z4, z5, zf⟩ := HQ3.out.zero
  have zf0 := zf 0
  have zf1 := zf 1
  have zf2 := zf 2
  have zf3 := zf 3
  have zf4 := zf 4
  have zf5 := zf 5
  clear zf
  go_wp2_with fail
  have HD := Lib.hid (HQ4.out.done (Nat.le_succ _) { x with x := (k1 : Int), y := (k2 : Int) })
  have HK := Lib.hid (putBox_block HQ4.out.rs { x with x := (k1 : Int), y := (k2 : Int) })
  refine bodyPost_ret (results_cell_row rfl _ _ (w.heap.size + 1) _ _ (0, 0) _ rfl HK.out Tryz.underlying34 rfl nodeInfo) rfl ?_
  exact ⟨rfl, HD.out⟩
end Go.Proofs.YthhkeobjjeldhaaGreatDoor
