/- Layer 6: texts joined: Gea Geb. -/
import Derived.Test.YtcdmchaehafijaaDoorNRb
/- Layer 8: the simplifier, operators 1 to 6. -/
namespace Go.Proofs.YtcdmchaehafijaaDoor
open Go.RowKit Go.Proofs.Ws Go.Maps
set_option maxRecDepth 100000
set_option maxHeartbeats 4000000 in
theorem sim_1 {B base bw bm br : Nat} {W : World} {o : List Nd} (h : Si B base bw bm br W o) (i e g : Int) (x y : Nat) (hn : NodeIn o ⟨1, i, e, g, (x : Int), (y : Int)⟩) (hm : o.length ≤ 1000000) :
    Calls Tryd.prog 38 #[.pointer (some ⟨br, 0, none⟩), nv ⟨1, i, e, g, (x : Int), (y : Int)⟩] W (BuOk B base bw bm br W (simP o ⟨1, i, e, g, (x : Int), (y : Int)⟩)) := by
  have lbr := h.as_.lt
  have HS0 : Hid (Si B base bw bm br (W.alloc (.cells #[.int .i64 1, .int .i64 i, .int .i64 e, .int .i64 g, .int .i64 (x : Int), .int .i64 (y : Int)] 53)) o) := Lib.hid (h.below ((Below.refl _ W).alloc (Nat.le_refl _) _))
  have HF0 : Hid (Fb bw bm W (W.alloc (.cells #[.int .i64 1, .int .i64 i, .int .i64 e, .int .i64 g, .int .i64 (x : Int), .int .i64 (y : Int)] 53))) := Lib.hid (Fb.of_below ((Below.refl _ W).alloc (Nat.le_refl _) _) h.bu.lwB)
  have HBX0 : Hid (Box (W.alloc (.cells #[.int .i64 1, .int .i64 i, .int .i64 e, .int .i64 g, .int .i64 (x : Int), .int .i64 (y : Int)] 53)) W.heap.size ⟨1, i, e, g, (x : Int), (y : Int)⟩) := Lib.hid (Box.made W ⟨1, i, e, g, (x : Int), (y : Int)⟩ 53)
  have HA0 := Lib.hid (AsideB.new (g := W.heap.size) h.bu.st ((Below.refl _ W).alloc (Nat.le_refl _) (.cells #[.int .i64 1, .int .i64 i, .int .i64 e, .int .i64 g, .int .i64 (x : Int), .int .i64 (y : Int)] 53)) (Nat.le_refl _) (by simp))
  have HN := Lib.hid hn
  have LM := Lib.hid hm
  clear h hn hm
  unfold nv
  go_enter Tryd.func38, Tryd.ntmps38
  go_wp2_with fail
  go_quiet (fail)
  replace HS0 : Hid (Si B base bw bm br ((W.alloc (.cells #[.int .i64 1, .int .i64 i, .int .i64 e, .int .i64 g, .int .i64 (x : Int), .int .i64 (y : Int)] 53)).drewN nq) o) := Lib.hid (HS0.out.drewN nq)
  replace HF0 : Hid (Fb bw bm W ((W.alloc (.cells #[.int .i64 1, .int .i64 i, .int .i64 e, .int .i64 g, .int .i64 (x : Int), .int .i64 (y : Int)] 53)).drewN nq)) := Lib.hid (HF0.out.drewN nq)
  replace HBX0 : Hid (Box ((W.alloc (.cells #[.int .i64 1, .int .i64 i, .int .i64 e, .int .i64 g, .int .i64 (x : Int), .int .i64 (y : Int)] 53)).drewN nq) W.heap.size ⟨1, i, e, g, (x : Int), (y : Int)⟩) := Lib.hid HBX0.out
  replace HA0 : Hid (AsideB ((W.alloc (.cells #[.int .i64 1, .int .i64 i, .int .i64 e, .int .i64 g, .int .i64 (x : Int), .int .i64 (y : Int)] 53)).drewN nq) bw bm W.heap.size) := Lib.hid (HA0.out.drewN nq)
  generalize (W.alloc (.cells #[.int .i64 1, .int .i64 i, .int .i64 e, .int .i64 g, .int .i64 (x : Int), .int .i64 (y : Int)] 53)).drewN nq = w0 at *
  generalize W.heap.size = gx at *
  obtain ⟨b0, b1, b2, b3, b4, b5, bf⟩ := HBX0.out
  dsimp only at b0 b1 b2 b3 b4 b5
  clear bf
  go_wp2_with fail
  have hp := HS0.out.ptr
  go_region_held3 (fun W' => (W'.cell? ⟨br, 0, none⟩ = some (.pointer (some ⟨bw, 0, none⟩)) ∧ W'.cell? ⟨gx, 0, none⟩ = some (.int .i64 1) ∧ W'.cell? ⟨gx, 1, none⟩ = some (.int .i64 i) ∧ W'.cell? ⟨gx, 2, none⟩ = some (.int .i64 e) ∧ W'.cell? ⟨gx, 3, none⟩ = some (.int .i64 g) ∧ W'.cell? ⟨gx, 4, none⟩ = some (.int .i64 (x : Int)) ∧ W'.cell? ⟨gx, 5, none⟩ = some (.int .i64 (y : Int)))) (first | assumption | (refine ⟨?_, ?_, ?_, ?_, ?_, ?_, ?_⟩ <;> assumption))
    (first | (go_at_call 64; refine ((Si.addD HS0 HF0 HA0.out HBX0 HN.out LM.out)).mono ?_; rintro e' w1 ⟨rfl, h3, h4, k0, k1, k2, k3, k4, k5, k6⟩))
  go_wp2
  go_ret
  rw [show simP o ⟨1, i, e, g, (x : Int), (y : Int)⟩ = putNd o ⟨1, i, e, g, (x : Int), (y : Int)⟩ from by unfold simP; simp [boxOp, ]]
  exact ⟨rfl, h3, h4⟩
set_option maxHeartbeats 4000000 in
theorem sim_2 {B base bw bm br : Nat} {W : World} {o : List Nd} (h : Si B base bw bm br W o) (i e g : Int) (x y : Nat) (hn : NodeIn o ⟨2, i, e, g, (x : Int), (y : Int)⟩) (hm : o.length ≤ 1000000) :
    Calls Tryd.prog 38 #[.pointer (some ⟨br, 0, none⟩), nv ⟨2, i, e, g, (x : Int), (y : Int)⟩] W (BuOk B base bw bm br W (simP o ⟨2, i, e, g, (x : Int), (y : Int)⟩)) := by
  have lbr := h.as_.lt
  have HS0 : Hid (Si B base bw bm br (W.alloc (.cells #[.int .i64 2, .int .i64 i, .int .i64 e, .int .i64 g, .int .i64 (x : Int), .int .i64 (y : Int)] 53)) o) := Lib.hid (h.below ((Below.refl _ W).alloc (Nat.le_refl _) _))
  have HF0 : Hid (Fb bw bm W (W.alloc (.cells #[.int .i64 2, .int .i64 i, .int .i64 e, .int .i64 g, .int .i64 (x : Int), .int .i64 (y : Int)] 53))) := Lib.hid (Fb.of_below ((Below.refl _ W).alloc (Nat.le_refl _) _) h.bu.lwB)
  have HBX0 : Hid (Box (W.alloc (.cells #[.int .i64 2, .int .i64 i, .int .i64 e, .int .i64 g, .int .i64 (x : Int), .int .i64 (y : Int)] 53)) W.heap.size ⟨2, i, e, g, (x : Int), (y : Int)⟩) := Lib.hid (Box.made W ⟨2, i, e, g, (x : Int), (y : Int)⟩ 53)
  have HA0 := Lib.hid (AsideB.new (g := W.heap.size) h.bu.st ((Below.refl _ W).alloc (Nat.le_refl _) (.cells #[.int .i64 2, .int .i64 i, .int .i64 e, .int .i64 g, .int .i64 (x : Int), .int .i64 (y : Int)] 53)) (Nat.le_refl _) (by simp))
  have HN := Lib.hid hn
  have LM := Lib.hid hm
  clear h hn hm
  unfold nv
  go_enter Tryd.func38, Tryd.ntmps38
  go_wp2_with fail
  go_quiet (fail)
  replace HS0 : Hid (Si B base bw bm br ((W.alloc (.cells #[.int .i64 2, .int .i64 i, .int .i64 e, .int .i64 g, .int .i64 (x : Int), .int .i64 (y : Int)] 53)).drewN nq) o) := Lib.hid (HS0.out.drewN nq)
  replace HF0 : Hid (Fb bw bm W ((W.alloc (.cells #[.int .i64 2, .int .i64 i, .int .i64 e, .int .i64 g, .int .i64 (x : Int), .int .i64 (y : Int)] 53)).drewN nq)) := Lib.hid (HF0.out.drewN nq)
  replace HBX0 : Hid (Box ((W.alloc (.cells #[.int .i64 2, .int .i64 i, .int .i64 e, .int .i64 g, .int .i64 (x : Int), .int .i64 (y : Int)] 53)).drewN nq) W.heap.size ⟨2, i, e, g, (x : Int), (y : Int)⟩) := Lib.hid HBX0.out
  replace HA0 : Hid (AsideB ((W.alloc (.cells #[.int .i64 2, .int .i64 i, .int .i64 e, .int .i64 g, .int .i64 (x : Int), .int .i64 (y : Int)] 53)).drewN nq) bw bm W.heap.size) := Lib.hid (HA0.out.drewN nq)
  generalize (W.alloc (.cells #[.int .i64 2, .int .i64 i, .int .i64 e, .int .i64 g, .int .i64 (x : Int), .int .i64 (y : Int)] 53)).drewN nq = w0 at *
  generalize W.heap.size = gx at *
  obtain ⟨b0, b1, b2, b3, b4, b5, bf⟩ := HBX0.out
  dsimp only at b0 b1 b2 b3 b4 b5
  clear bf
  go_wp2_with fail
  have hp := HS0.out.ptr
  go_region_held3 (fun W' => (W'.cell? ⟨br, 0, none⟩ = some (.pointer (some ⟨bw, 0, none⟩)) ∧ W'.cell? ⟨gx, 0, none⟩ = some (.int .i64 2) ∧ W'.cell? ⟨gx, 1, none⟩ = some (.int .i64 i) ∧ W'.cell? ⟨gx, 2, none⟩ = some (.int .i64 e) ∧ W'.cell? ⟨gx, 3, none⟩ = some (.int .i64 g) ∧ W'.cell? ⟨gx, 4, none⟩ = some (.int .i64 (x : Int)) ∧ W'.cell? ⟨gx, 5, none⟩ = some (.int .i64 (y : Int)))) (first | assumption | (refine ⟨?_, ?_, ?_, ?_, ?_, ?_, ?_⟩ <;> assumption))
    (first | (go_at_call 64; refine ((Si.addD HS0 HF0 HA0.out HBX0 HN.out LM.out)).mono ?_; rintro e' w1 ⟨rfl, h3, h4, k0, k1, k2, k3, k4, k5, k6⟩))
  go_wp2
  go_ret
  rw [show simP o ⟨2, i, e, g, (x : Int), (y : Int)⟩ = putNd o ⟨2, i, e, g, (x : Int), (y : Int)⟩ from by unfold simP; simp [boxOp, ]]
  exact ⟨rfl, h3, h4⟩
set_option maxHeartbeats 4000000 in
theorem sim_3 {B base bw bm br : Nat} {W : World} {o : List Nd} (h : Si B base bw bm br W o) (i e g : Int) (x y : Nat) (hn : NodeIn o ⟨3, i, e, g, (x : Int), (y : Int)⟩) (hm : o.length ≤ 1000000) :
    Calls Tryd.prog 38 #[.pointer (some ⟨br, 0, none⟩), nv ⟨3, i, e, g, (x : Int), (y : Int)⟩] W (BuOk B base bw bm br W (simP o ⟨3, i, e, g, (x : Int), (y : Int)⟩)) := by
  have lbr := h.as_.lt
  have HS0 : Hid (Si B base bw bm br (W.alloc (.cells #[.int .i64 3, .int .i64 i, .int .i64 e, .int .i64 g, .int .i64 (x : Int), .int .i64 (y : Int)] 53)) o) := Lib.hid (h.below ((Below.refl _ W).alloc (Nat.le_refl _) _))
  have HF0 : Hid (Fb bw bm W (W.alloc (.cells #[.int .i64 3, .int .i64 i, .int .i64 e, .int .i64 g, .int .i64 (x : Int), .int .i64 (y : Int)] 53))) := Lib.hid (Fb.of_below ((Below.refl _ W).alloc (Nat.le_refl _) _) h.bu.lwB)
  have HBX0 : Hid (Box (W.alloc (.cells #[.int .i64 3, .int .i64 i, .int .i64 e, .int .i64 g, .int .i64 (x : Int), .int .i64 (y : Int)] 53)) W.heap.size ⟨3, i, e, g, (x : Int), (y : Int)⟩) := Lib.hid (Box.made W ⟨3, i, e, g, (x : Int), (y : Int)⟩ 53)
  have HA0 := Lib.hid (AsideB.new (g := W.heap.size) h.bu.st ((Below.refl _ W).alloc (Nat.le_refl _) (.cells #[.int .i64 3, .int .i64 i, .int .i64 e, .int .i64 g, .int .i64 (x : Int), .int .i64 (y : Int)] 53)) (Nat.le_refl _) (by simp))
  have HN := Lib.hid hn
  have LM := Lib.hid hm
  clear h hn hm
  unfold nv
  go_enter Tryd.func38, Tryd.ntmps38
  go_wp2_with fail
  go_quiet (fail)
  replace HS0 : Hid (Si B base bw bm br ((W.alloc (.cells #[.int .i64 3, .int .i64 i, .int .i64 e, .int .i64 g, .int .i64 (x : Int), .int .i64 (y : Int)] 53)).drewN nq) o) := Lib.hid (HS0.out.drewN nq)
  replace HF0 : Hid (Fb bw bm W ((W.alloc (.cells #[.int .i64 3, .int .i64 i, .int .i64 e, .int .i64 g, .int .i64 (x : Int), .int .i64 (y : Int)] 53)).drewN nq)) := Lib.hid (HF0.out.drewN nq)
  replace HBX0 : Hid (Box ((W.alloc (.cells #[.int .i64 3, .int .i64 i, .int .i64 e, .int .i64 g, .int .i64 (x : Int), .int .i64 (y : Int)] 53)).drewN nq) W.heap.size ⟨3, i, e, g, (x : Int), (y : Int)⟩) := Lib.hid HBX0.out
  replace HA0 : Hid (AsideB ((W.alloc (.cells #[.int .i64 3, .int .i64 i, .int .i64 e, .int .i64 g, .int .i64 (x : Int), .int .i64 (y : Int)] 53)).drewN nq) bw bm W.heap.size) := Lib.hid (HA0.out.drewN nq)
  generalize (W.alloc (.cells #[.int .i64 3, .int .i64 i, .int .i64 e, .int .i64 g, .int .i64 (x : Int), .int .i64 (y : Int)] 53)).drewN nq = w0 at *
  generalize W.heap.size = gx at *
  obtain ⟨b0, b1, b2, b3, b4, b5, bf⟩ := HBX0.out
  dsimp only at b0 b1 b2 b3 b4 b5
  clear bf
  go_wp2_with fail
  have hp := HS0.out.ptr
  go_region_held3 (fun W' => (W'.cell? ⟨br, 0, none⟩ = some (.pointer (some ⟨bw, 0, none⟩)) ∧ W'.cell? ⟨gx, 0, none⟩ = some (.int .i64 3) ∧ W'.cell? ⟨gx, 1, none⟩ = some (.int .i64 i) ∧ W'.cell? ⟨gx, 2, none⟩ = some (.int .i64 e) ∧ W'.cell? ⟨gx, 3, none⟩ = some (.int .i64 g) ∧ W'.cell? ⟨gx, 4, none⟩ = some (.int .i64 (x : Int)) ∧ W'.cell? ⟨gx, 5, none⟩ = some (.int .i64 (y : Int)))) (first | assumption | (refine ⟨?_, ?_, ?_, ?_, ?_, ?_, ?_⟩ <;> assumption))
    (first | (go_at_call 64; refine ((Si.addD HS0 HF0 HA0.out HBX0 HN.out LM.out)).mono ?_; rintro e' w1 ⟨rfl, h3, h4, k0, k1, k2, k3, k4, k5, k6⟩))
  go_wp2
  go_ret
  rw [show simP o ⟨3, i, e, g, (x : Int), (y : Int)⟩ = putNd o ⟨3, i, e, g, (x : Int), (y : Int)⟩ from by unfold simP; simp [boxOp, ]]
  exact ⟨rfl, h3, h4⟩
set_option maxHeartbeats 4000000 in
theorem sim_4 {B base bw bm br : Nat} {W : World} {o : List Nd} (h : Si B base bw bm br W o) (i e g : Int) (x y : Nat) (hx : x < o.length) (hn : NodeIn o ⟨4, i, e, g, (x : Int), (y : Int)⟩) (hm : o.length ≤ 1000000) :
    Calls Tryd.prog 38 #[.pointer (some ⟨br, 0, none⟩), nv ⟨4, i, e, g, (x : Int), (y : Int)⟩] W (BuOk B base bw bm br W (simP o ⟨4, i, e, g, (x : Int), (y : Int)⟩)) := by
  have lbr := h.as_.lt
  have HS0 : Hid (Si B base bw bm br (W.alloc (.cells #[.int .i64 4, .int .i64 i, .int .i64 e, .int .i64 g, .int .i64 (x : Int), .int .i64 (y : Int)] 53)) o) := Lib.hid (h.below ((Below.refl _ W).alloc (Nat.le_refl _) _))
  have HF0 : Hid (Fb bw bm W (W.alloc (.cells #[.int .i64 4, .int .i64 i, .int .i64 e, .int .i64 g, .int .i64 (x : Int), .int .i64 (y : Int)] 53))) := Lib.hid (Fb.of_below ((Below.refl _ W).alloc (Nat.le_refl _) _) h.bu.lwB)
  have HBX0 : Hid (Box (W.alloc (.cells #[.int .i64 4, .int .i64 i, .int .i64 e, .int .i64 g, .int .i64 (x : Int), .int .i64 (y : Int)] 53)) W.heap.size ⟨4, i, e, g, (x : Int), (y : Int)⟩) := Lib.hid (Box.made W ⟨4, i, e, g, (x : Int), (y : Int)⟩ 53)
  have HA0 := Lib.hid (AsideB.new (g := W.heap.size) h.bu.st ((Below.refl _ W).alloc (Nat.le_refl _) (.cells #[.int .i64 4, .int .i64 i, .int .i64 e, .int .i64 g, .int .i64 (x : Int), .int .i64 (y : Int)] 53)) (Nat.le_refl _) (by simp))
  have LX := Lib.hid hx
  have HN := Lib.hid hn
  have LM := Lib.hid hm
  clear h hx hn hm
  unfold nv
  go_enter Tryd.func38, Tryd.ntmps38
  go_wp2_with fail
  go_quiet (fail)
  replace HS0 : Hid (Si B base bw bm br ((W.alloc (.cells #[.int .i64 4, .int .i64 i, .int .i64 e, .int .i64 g, .int .i64 (x : Int), .int .i64 (y : Int)] 53)).drewN nq) o) := Lib.hid (HS0.out.drewN nq)
  replace HF0 : Hid (Fb bw bm W ((W.alloc (.cells #[.int .i64 4, .int .i64 i, .int .i64 e, .int .i64 g, .int .i64 (x : Int), .int .i64 (y : Int)] 53)).drewN nq)) := Lib.hid (HF0.out.drewN nq)
  replace HBX0 : Hid (Box ((W.alloc (.cells #[.int .i64 4, .int .i64 i, .int .i64 e, .int .i64 g, .int .i64 (x : Int), .int .i64 (y : Int)] 53)).drewN nq) W.heap.size ⟨4, i, e, g, (x : Int), (y : Int)⟩) := Lib.hid HBX0.out
  replace HA0 : Hid (AsideB ((W.alloc (.cells #[.int .i64 4, .int .i64 i, .int .i64 e, .int .i64 g, .int .i64 (x : Int), .int .i64 (y : Int)] 53)).drewN nq) bw bm W.heap.size) := Lib.hid (HA0.out.drewN nq)
  generalize (W.alloc (.cells #[.int .i64 4, .int .i64 i, .int .i64 e, .int .i64 g, .int .i64 (x : Int), .int .i64 (y : Int)] 53)).drewN nq = w0 at *
  generalize W.heap.size = gx at *
  obtain ⟨b0, b1, b2, b3, b4, b5, bf⟩ := HBX0.out
  dsimp only at b0 b1 b2 b3 b4 b5
  clear bf
  go_wp2_with fail
  refine (sNot_any HS0.out 4 i e g x y LX.out LM.out).mono ?_
  rintro r' w1 hk
  obtain ⟨rfl, h3, h4⟩ := BuOk.up HF0 hk
  clear hk
  go_wp2
  go_ret
  rw [show simP o ⟨4, i, e, g, (x : Int), (y : Int)⟩ = sNotP o x from by unfold simP; simp]
  exact ⟨rfl, h3, h4⟩
set_option maxHeartbeats 4000000 in
theorem sim_5 {B base bw bm br : Nat} {W : World} {o : List Nd} (h : Si B base bw bm br W o) (i e g : Int) (x y : Nat) (hx : x < o.length) (hy : y < o.length) (hn : NodeIn o ⟨5, i, e, g, (x : Int), (y : Int)⟩) (hm : o.length ≤ 1000000) :
    Calls Tryd.prog 38 #[.pointer (some ⟨br, 0, none⟩), nv ⟨5, i, e, g, (x : Int), (y : Int)⟩] W (BuOk B base bw bm br W (simP o ⟨5, i, e, g, (x : Int), (y : Int)⟩)) := by
  have lbr := h.as_.lt
  have HS0 : Hid (Si B base bw bm br (W.alloc (.cells #[.int .i64 5, .int .i64 i, .int .i64 e, .int .i64 g, .int .i64 (x : Int), .int .i64 (y : Int)] 53)) o) := Lib.hid (h.below ((Below.refl _ W).alloc (Nat.le_refl _) _))
  have HF0 : Hid (Fb bw bm W (W.alloc (.cells #[.int .i64 5, .int .i64 i, .int .i64 e, .int .i64 g, .int .i64 (x : Int), .int .i64 (y : Int)] 53))) := Lib.hid (Fb.of_below ((Below.refl _ W).alloc (Nat.le_refl _) _) h.bu.lwB)
  have HBX0 : Hid (Box (W.alloc (.cells #[.int .i64 5, .int .i64 i, .int .i64 e, .int .i64 g, .int .i64 (x : Int), .int .i64 (y : Int)] 53)) W.heap.size ⟨5, i, e, g, (x : Int), (y : Int)⟩) := Lib.hid (Box.made W ⟨5, i, e, g, (x : Int), (y : Int)⟩ 53)
  have HA0 := Lib.hid (AsideB.new (g := W.heap.size) h.bu.st ((Below.refl _ W).alloc (Nat.le_refl _) (.cells #[.int .i64 5, .int .i64 i, .int .i64 e, .int .i64 g, .int .i64 (x : Int), .int .i64 (y : Int)] 53)) (Nat.le_refl _) (by simp))
  have LX := Lib.hid hx
  have LY := Lib.hid hy
  have HN := Lib.hid hn
  have LM := Lib.hid hm
  clear h hx hy hn hm
  unfold nv
  go_enter Tryd.func38, Tryd.ntmps38
  go_wp2_with fail
  go_quiet (fail)
  replace HS0 : Hid (Si B base bw bm br ((W.alloc (.cells #[.int .i64 5, .int .i64 i, .int .i64 e, .int .i64 g, .int .i64 (x : Int), .int .i64 (y : Int)] 53)).drewN nq) o) := Lib.hid (HS0.out.drewN nq)
  replace HF0 : Hid (Fb bw bm W ((W.alloc (.cells #[.int .i64 5, .int .i64 i, .int .i64 e, .int .i64 g, .int .i64 (x : Int), .int .i64 (y : Int)] 53)).drewN nq)) := Lib.hid (HF0.out.drewN nq)
  replace HBX0 : Hid (Box ((W.alloc (.cells #[.int .i64 5, .int .i64 i, .int .i64 e, .int .i64 g, .int .i64 (x : Int), .int .i64 (y : Int)] 53)).drewN nq) W.heap.size ⟨5, i, e, g, (x : Int), (y : Int)⟩) := Lib.hid HBX0.out
  replace HA0 : Hid (AsideB ((W.alloc (.cells #[.int .i64 5, .int .i64 i, .int .i64 e, .int .i64 g, .int .i64 (x : Int), .int .i64 (y : Int)] 53)).drewN nq) bw bm W.heap.size) := Lib.hid (HA0.out.drewN nq)
  generalize (W.alloc (.cells #[.int .i64 5, .int .i64 i, .int .i64 e, .int .i64 g, .int .i64 (x : Int), .int .i64 (y : Int)] 53)).drewN nq = w0 at *
  generalize W.heap.size = gx at *
  obtain ⟨b0, b1, b2, b3, b4, b5, bf⟩ := HBX0.out
  dsimp only at b0 b1 b2 b3 b4 b5
  clear bf
  go_wp2_with fail
  refine (sJoin_any HS0.out 5 i e g x y LX.out 1 2 (by omega) LY.out HN.out LM.out).mono ?_
  rintro r' w1 hk
  obtain ⟨rfl, h3, h4⟩ := BuOk.up HF0 hk
  clear hk
  go_wp2
  go_ret
  rw [show simP o ⟨5, i, e, g, (x : Int), (y : Int)⟩ = sJoinP o ⟨5, i, e, g, (x : Int), (y : Int)⟩ 1 2 x y from by unfold simP; simp]
  exact ⟨rfl, h3, h4⟩
set_option maxHeartbeats 4000000 in
theorem sim_6 {B base bw bm br : Nat} {W : World} {o : List Nd} (h : Si B base bw bm br W o) (i e g : Int) (x y : Nat) (hx : x < o.length) (hy : y < o.length) (hn : NodeIn o ⟨6, i, e, g, (x : Int), (y : Int)⟩) (hm : o.length ≤ 1000000) :
    Calls Tryd.prog 38 #[.pointer (some ⟨br, 0, none⟩), nv ⟨6, i, e, g, (x : Int), (y : Int)⟩] W (BuOk B base bw bm br W (simP o ⟨6, i, e, g, (x : Int), (y : Int)⟩)) := by
  have lbr := h.as_.lt
  have HS0 : Hid (Si B base bw bm br (W.alloc (.cells #[.int .i64 6, .int .i64 i, .int .i64 e, .int .i64 g, .int .i64 (x : Int), .int .i64 (y : Int)] 53)) o) := Lib.hid (h.below ((Below.refl _ W).alloc (Nat.le_refl _) _))
  have HF0 : Hid (Fb bw bm W (W.alloc (.cells #[.int .i64 6, .int .i64 i, .int .i64 e, .int .i64 g, .int .i64 (x : Int), .int .i64 (y : Int)] 53))) := Lib.hid (Fb.of_below ((Below.refl _ W).alloc (Nat.le_refl _) _) h.bu.lwB)
  have HBX0 : Hid (Box (W.alloc (.cells #[.int .i64 6, .int .i64 i, .int .i64 e, .int .i64 g, .int .i64 (x : Int), .int .i64 (y : Int)] 53)) W.heap.size ⟨6, i, e, g, (x : Int), (y : Int)⟩) := Lib.hid (Box.made W ⟨6, i, e, g, (x : Int), (y : Int)⟩ 53)
  have HA0 := Lib.hid (AsideB.new (g := W.heap.size) h.bu.st ((Below.refl _ W).alloc (Nat.le_refl _) (.cells #[.int .i64 6, .int .i64 i, .int .i64 e, .int .i64 g, .int .i64 (x : Int), .int .i64 (y : Int)] 53)) (Nat.le_refl _) (by simp))
  have LX := Lib.hid hx
  have LY := Lib.hid hy
  have HN := Lib.hid hn
  have LM := Lib.hid hm
  clear h hx hy hn hm
  unfold nv
  go_enter Tryd.func38, Tryd.ntmps38
  go_wp2_with fail
  go_quiet (fail)
  replace HS0 : Hid (Si B base bw bm br ((W.alloc (.cells #[.int .i64 6, .int .i64 i, .int .i64 e, .int .i64 g, .int .i64 (x : Int), .int .i64 (y : Int)] 53)).drewN nq) o) := Lib.hid (HS0.out.drewN nq)
  replace HF0 : Hid (Fb bw bm W ((W.alloc (.cells #[.int .i64 6, .int .i64 i, .int .i64 e, .int .i64 g, .int .i64 (x : Int), .int .i64 (y : Int)] 53)).drewN nq)) := Lib.hid (HF0.out.drewN nq)
  replace HBX0 : Hid (Box ((W.alloc (.cells #[.int .i64 6, .int .i64 i, .int .i64 e, .int .i64 g, .int .i64 (x : Int), .int .i64 (y : Int)] 53)).drewN nq) W.heap.size ⟨6, i, e, g, (x : Int), (y : Int)⟩) := Lib.hid HBX0.out
  replace HA0 : Hid (AsideB ((W.alloc (.cells #[.int .i64 6, .int .i64 i, .int .i64 e, .int .i64 g, .int .i64 (x : Int), .int .i64 (y : Int)] 53)).drewN nq) bw bm W.heap.size) := Lib.hid (HA0.out.drewN nq)
  generalize (W.alloc (.cells #[.int .i64 6, .int .i64 i, .int .i64 e, .int .i64 g, .int .i64 (x : Int), .int .i64 (y : Int)] 53)).drewN nq = w0 at *
  generalize W.heap.size = gx at *
  obtain ⟨b0, b1, b2, b3, b4, b5, bf⟩ := HBX0.out
  dsimp only at b0 b1 b2 b3 b4 b5
  clear bf
  go_wp2_with fail
  refine (sJoin_any HS0.out 6 i e g x y LX.out 2 1 (by omega) LY.out HN.out LM.out).mono ?_
  rintro r' w1 hk
  obtain ⟨rfl, h3, h4⟩ := BuOk.up HF0 hk
  clear hk
  go_wp2
  go_ret
  rw [show simP o ⟨6, i, e, g, (x : Int), (y : Int)⟩ = sJoinP o ⟨6, i, e, g, (x : Int), (y : Int)⟩ 2 1 x y from by unfold simP; simp]
  exact ⟨rfl, h3, h4⟩
end Go.Proofs.YtcdmchaehafijaaDoor
/- Layer 8: the simplifier, operators 7 to 11. -/
namespace Go.Proofs.YtcdmchaehafijaaDoor
open Go.RowKit Go.Proofs.Ws Go.Maps
set_option maxRecDepth 100000
set_option maxHeartbeats 4000000 in
theorem sim_7 {B base bw bm br : Nat} {W : World} {o : List Nd} (h : Si B base bw bm br W o) (i e g : Int) (x y : Nat) (hx : x < o.length) (hy : y < o.length) (hn : NodeIn o ⟨7, i, e, g, (x : Int), (y : Int)⟩) (hm : o.length ≤ 1000000) :
    Calls Tryd.prog 38 #[.pointer (some ⟨br, 0, none⟩), nv ⟨7, i, e, g, (x : Int), (y : Int)⟩] W (BuOk B base bw bm br W (simP o ⟨7, i, e, g, (x : Int), (y : Int)⟩)) := by
  have lbr := h.as_.lt
  have HS0 : Hid (Si B base bw bm br (W.alloc (.cells #[.int .i64 7, .int .i64 i, .int .i64 e, .int .i64 g, .int .i64 (x : Int), .int .i64 (y : Int)] 53)) o) := Lib.hid (h.below ((Below.refl _ W).alloc (Nat.le_refl _) _))
  have HF0 : Hid (Fb bw bm W (W.alloc (.cells #[.int .i64 7, .int .i64 i, .int .i64 e, .int .i64 g, .int .i64 (x : Int), .int .i64 (y : Int)] 53))) := Lib.hid (Fb.of_below ((Below.refl _ W).alloc (Nat.le_refl _) _) h.bu.lwB)
  have HBX0 : Hid (Box (W.alloc (.cells #[.int .i64 7, .int .i64 i, .int .i64 e, .int .i64 g, .int .i64 (x : Int), .int .i64 (y : Int)] 53)) W.heap.size ⟨7, i, e, g, (x : Int), (y : Int)⟩) := Lib.hid (Box.made W ⟨7, i, e, g, (x : Int), (y : Int)⟩ 53)
  have HA0 := Lib.hid (AsideB.new (g := W.heap.size) h.bu.st ((Below.refl _ W).alloc (Nat.le_refl _) (.cells #[.int .i64 7, .int .i64 i, .int .i64 e, .int .i64 g, .int .i64 (x : Int), .int .i64 (y : Int)] 53)) (Nat.le_refl _) (by simp))
  have LX := Lib.hid hx
  have LY := Lib.hid hy
  have HN := Lib.hid hn
  have LM := Lib.hid hm
  clear h hx hy hn hm
  unfold nv
  go_enter Tryd.func38, Tryd.ntmps38
  go_wp2_with fail
  go_quiet (fail)
  replace HS0 : Hid (Si B base bw bm br ((W.alloc (.cells #[.int .i64 7, .int .i64 i, .int .i64 e, .int .i64 g, .int .i64 (x : Int), .int .i64 (y : Int)] 53)).drewN nq) o) := Lib.hid (HS0.out.drewN nq)
  replace HF0 : Hid (Fb bw bm W ((W.alloc (.cells #[.int .i64 7, .int .i64 i, .int .i64 e, .int .i64 g, .int .i64 (x : Int), .int .i64 (y : Int)] 53)).drewN nq)) := Lib.hid (HF0.out.drewN nq)
  replace HBX0 : Hid (Box ((W.alloc (.cells #[.int .i64 7, .int .i64 i, .int .i64 e, .int .i64 g, .int .i64 (x : Int), .int .i64 (y : Int)] 53)).drewN nq) W.heap.size ⟨7, i, e, g, (x : Int), (y : Int)⟩) := Lib.hid HBX0.out
  replace HA0 : Hid (AsideB ((W.alloc (.cells #[.int .i64 7, .int .i64 i, .int .i64 e, .int .i64 g, .int .i64 (x : Int), .int .i64 (y : Int)] 53)).drewN nq) bw bm W.heap.size) := Lib.hid (HA0.out.drewN nq)
  generalize (W.alloc (.cells #[.int .i64 7, .int .i64 i, .int .i64 e, .int .i64 g, .int .i64 (x : Int), .int .i64 (y : Int)] 53)).drewN nq = w0 at *
  generalize W.heap.size = gx at *
  obtain ⟨b0, b1, b2, b3, b4, b5, bf⟩ := HBX0.out
  dsimp only at b0 b1 b2 b3 b4 b5
  clear bf
  go_wp2_with fail
  refine (sImp_any HS0.out 7 i e g x y LX.out LY.out HN.out LM.out).mono ?_
  rintro r' w1 hk
  obtain ⟨rfl, h3, h4⟩ := BuOk.up HF0 hk
  clear hk
  go_wp2
  go_ret
  rw [show simP o ⟨7, i, e, g, (x : Int), (y : Int)⟩ = sImpP o ⟨7, i, e, g, (x : Int), (y : Int)⟩ x y from by unfold simP; simp]
  exact ⟨rfl, h3, h4⟩
set_option maxHeartbeats 4000000 in
theorem sim_8 {B base bw bm br : Nat} {W : World} {o : List Nd} (h : Si B base bw bm br W o) (i e g : Int) (x y : Nat) (hx : x < o.length) (hy : y < o.length) (hn : NodeIn o ⟨8, i, e, g, (x : Int), (y : Int)⟩) (hm : o.length ≤ 1000000) :
    Calls Tryd.prog 38 #[.pointer (some ⟨br, 0, none⟩), nv ⟨8, i, e, g, (x : Int), (y : Int)⟩] W (BuOk B base bw bm br W (simP o ⟨8, i, e, g, (x : Int), (y : Int)⟩)) := by
  have lbr := h.as_.lt
  have HS0 : Hid (Si B base bw bm br (W.alloc (.cells #[.int .i64 8, .int .i64 i, .int .i64 e, .int .i64 g, .int .i64 (x : Int), .int .i64 (y : Int)] 53)) o) := Lib.hid (h.below ((Below.refl _ W).alloc (Nat.le_refl _) _))
  have HF0 : Hid (Fb bw bm W (W.alloc (.cells #[.int .i64 8, .int .i64 i, .int .i64 e, .int .i64 g, .int .i64 (x : Int), .int .i64 (y : Int)] 53))) := Lib.hid (Fb.of_below ((Below.refl _ W).alloc (Nat.le_refl _) _) h.bu.lwB)
  have HBX0 : Hid (Box (W.alloc (.cells #[.int .i64 8, .int .i64 i, .int .i64 e, .int .i64 g, .int .i64 (x : Int), .int .i64 (y : Int)] 53)) W.heap.size ⟨8, i, e, g, (x : Int), (y : Int)⟩) := Lib.hid (Box.made W ⟨8, i, e, g, (x : Int), (y : Int)⟩ 53)
  have HA0 := Lib.hid (AsideB.new (g := W.heap.size) h.bu.st ((Below.refl _ W).alloc (Nat.le_refl _) (.cells #[.int .i64 8, .int .i64 i, .int .i64 e, .int .i64 g, .int .i64 (x : Int), .int .i64 (y : Int)] 53)) (Nat.le_refl _) (by simp))
  have LX := Lib.hid hx
  have LY := Lib.hid hy
  have HN := Lib.hid hn
  have LM := Lib.hid hm
  clear h hx hy hn hm
  unfold nv
  go_enter Tryd.func38, Tryd.ntmps38
  go_wp2_with fail
  go_quiet (fail)
  replace HS0 : Hid (Si B base bw bm br ((W.alloc (.cells #[.int .i64 8, .int .i64 i, .int .i64 e, .int .i64 g, .int .i64 (x : Int), .int .i64 (y : Int)] 53)).drewN nq) o) := Lib.hid (HS0.out.drewN nq)
  replace HF0 : Hid (Fb bw bm W ((W.alloc (.cells #[.int .i64 8, .int .i64 i, .int .i64 e, .int .i64 g, .int .i64 (x : Int), .int .i64 (y : Int)] 53)).drewN nq)) := Lib.hid (HF0.out.drewN nq)
  replace HBX0 : Hid (Box ((W.alloc (.cells #[.int .i64 8, .int .i64 i, .int .i64 e, .int .i64 g, .int .i64 (x : Int), .int .i64 (y : Int)] 53)).drewN nq) W.heap.size ⟨8, i, e, g, (x : Int), (y : Int)⟩) := Lib.hid HBX0.out
  replace HA0 : Hid (AsideB ((W.alloc (.cells #[.int .i64 8, .int .i64 i, .int .i64 e, .int .i64 g, .int .i64 (x : Int), .int .i64 (y : Int)] 53)).drewN nq) bw bm W.heap.size) := Lib.hid (HA0.out.drewN nq)
  generalize (W.alloc (.cells #[.int .i64 8, .int .i64 i, .int .i64 e, .int .i64 g, .int .i64 (x : Int), .int .i64 (y : Int)] 53)).drewN nq = w0 at *
  generalize W.heap.size = gx at *
  obtain ⟨b0, b1, b2, b3, b4, b5, bf⟩ := HBX0.out
  dsimp only at b0 b1 b2 b3 b4 b5
  clear bf
  go_wp2_with fail
  refine (sIff_any HS0.out 8 i e g x y LX.out LY.out HN.out LM.out).mono ?_
  rintro r' w1 hk
  obtain ⟨rfl, h3, h4⟩ := BuOk.up HF0 hk
  clear hk
  go_wp2
  go_ret
  rw [show simP o ⟨8, i, e, g, (x : Int), (y : Int)⟩ = sIffP o ⟨8, i, e, g, (x : Int), (y : Int)⟩ x y from by unfold simP; simp]
  exact ⟨rfl, h3, h4⟩
set_option maxHeartbeats 4000000 in
theorem sim_9 {B base bw bm br : Nat} {W : World} {o : List Nd} (h : Si B base bw bm br W o) (i e g : Int) (x y : Nat) (hx : x < o.length) (hn : NodeIn o ⟨9, i, e, g, (x : Int), (y : Int)⟩) (hm : o.length ≤ 1000000) :
    Calls Tryd.prog 38 #[.pointer (some ⟨br, 0, none⟩), nv ⟨9, i, e, g, (x : Int), (y : Int)⟩] W (BuOk B base bw bm br W (simP o ⟨9, i, e, g, (x : Int), (y : Int)⟩)) := by
  have lbr := h.as_.lt
  have HS0 : Hid (Si B base bw bm br (W.alloc (.cells #[.int .i64 9, .int .i64 i, .int .i64 e, .int .i64 g, .int .i64 (x : Int), .int .i64 (y : Int)] 53)) o) := Lib.hid (h.below ((Below.refl _ W).alloc (Nat.le_refl _) _))
  have HF0 : Hid (Fb bw bm W (W.alloc (.cells #[.int .i64 9, .int .i64 i, .int .i64 e, .int .i64 g, .int .i64 (x : Int), .int .i64 (y : Int)] 53))) := Lib.hid (Fb.of_below ((Below.refl _ W).alloc (Nat.le_refl _) _) h.bu.lwB)
  have HBX0 : Hid (Box (W.alloc (.cells #[.int .i64 9, .int .i64 i, .int .i64 e, .int .i64 g, .int .i64 (x : Int), .int .i64 (y : Int)] 53)) W.heap.size ⟨9, i, e, g, (x : Int), (y : Int)⟩) := Lib.hid (Box.made W ⟨9, i, e, g, (x : Int), (y : Int)⟩ 53)
  have HA0 := Lib.hid (AsideB.new (g := W.heap.size) h.bu.st ((Below.refl _ W).alloc (Nat.le_refl _) (.cells #[.int .i64 9, .int .i64 i, .int .i64 e, .int .i64 g, .int .i64 (x : Int), .int .i64 (y : Int)] 53)) (Nat.le_refl _) (by simp))
  have LX := Lib.hid hx
  have HN := Lib.hid hn
  have LM := Lib.hid hm
  clear h hx hn hm
  unfold nv
  go_enter Tryd.func38, Tryd.ntmps38
  go_wp2_with fail
  go_quiet (fail)
  replace HS0 : Hid (Si B base bw bm br ((W.alloc (.cells #[.int .i64 9, .int .i64 i, .int .i64 e, .int .i64 g, .int .i64 (x : Int), .int .i64 (y : Int)] 53)).drewN nq) o) := Lib.hid (HS0.out.drewN nq)
  replace HF0 : Hid (Fb bw bm W ((W.alloc (.cells #[.int .i64 9, .int .i64 i, .int .i64 e, .int .i64 g, .int .i64 (x : Int), .int .i64 (y : Int)] 53)).drewN nq)) := Lib.hid (HF0.out.drewN nq)
  replace HBX0 : Hid (Box ((W.alloc (.cells #[.int .i64 9, .int .i64 i, .int .i64 e, .int .i64 g, .int .i64 (x : Int), .int .i64 (y : Int)] 53)).drewN nq) W.heap.size ⟨9, i, e, g, (x : Int), (y : Int)⟩) := Lib.hid HBX0.out
  replace HA0 : Hid (AsideB ((W.alloc (.cells #[.int .i64 9, .int .i64 i, .int .i64 e, .int .i64 g, .int .i64 (x : Int), .int .i64 (y : Int)] 53)).drewN nq) bw bm W.heap.size) := Lib.hid (HA0.out.drewN nq)
  generalize (W.alloc (.cells #[.int .i64 9, .int .i64 i, .int .i64 e, .int .i64 g, .int .i64 (x : Int), .int .i64 (y : Int)] 53)).drewN nq = w0 at *
  generalize W.heap.size = gx at *
  obtain ⟨b0, b1, b2, b3, b4, b5, bf⟩ := HBX0.out
  dsimp only at b0 b1 b2 b3 b4 b5
  clear bf
  go_wp2_with fail
  refine (sIs_any HS0 (c := 1) (x := x) LX.out).mono ?_
  rintro r' w1 ⟨rfl, rfl⟩
  cases h1 : decide (opTp o x = 1)
  · go_wp2_with fail
    have hp := HS0.out.ptr
    go_region_held3 (fun W' => (W'.cell? ⟨br, 0, none⟩ = some (.pointer (some ⟨bw, 0, none⟩)) ∧ W'.cell? ⟨gx, 0, none⟩ = some (.int .i64 9) ∧ W'.cell? ⟨gx, 1, none⟩ = some (.int .i64 i) ∧ W'.cell? ⟨gx, 2, none⟩ = some (.int .i64 e) ∧ W'.cell? ⟨gx, 3, none⟩ = some (.int .i64 g) ∧ W'.cell? ⟨gx, 4, none⟩ = some (.int .i64 (x : Int)) ∧ W'.cell? ⟨gx, 5, none⟩ = some (.int .i64 (y : Int)))) (first | assumption | (refine ⟨?_, ?_, ?_, ?_, ?_, ?_, ?_⟩ <;> assumption))
      (first | (go_at_call 64; refine ((Si.addD HS0 HF0 HA0.out HBX0 HN.out LM.out)).mono ?_; rintro e' w1 ⟨rfl, h3, h4, k0, k1, k2, k3, k4, k5, k6⟩))
    go_wp2
    go_ret
    have h1' := of_decide_eq_false h1
    rw [show simP o ⟨9, i, e, g, (x : Int), (y : Int)⟩ = putNd o ⟨9, i, e, g, (x : Int), (y : Int)⟩ from by unfold simP; simp [boxOp, h1']]
    exact ⟨rfl, h3, h4⟩
  · go_wp2_with fail
    go_ret
    have h1' := of_decide_eq_true h1
    rw [show simP o ⟨9, i, e, g, (x : Int), (y : Int)⟩ = (x, o) from by unfold simP; simp [boxOp, h1']]
    exact ⟨rfl, HS0, HF0⟩
set_option maxHeartbeats 4000000 in
theorem sim_10 {B base bw bm br : Nat} {W : World} {o : List Nd} (h : Si B base bw bm br W o) (i e g : Int) (x y : Nat) (hx : x < o.length) (hn : NodeIn o ⟨10, i, e, g, (x : Int), (y : Int)⟩) (hm : o.length ≤ 1000000) :
    Calls Tryd.prog 38 #[.pointer (some ⟨br, 0, none⟩), nv ⟨10, i, e, g, (x : Int), (y : Int)⟩] W (BuOk B base bw bm br W (simP o ⟨10, i, e, g, (x : Int), (y : Int)⟩)) := by
  have lbr := h.as_.lt
  have HS0 : Hid (Si B base bw bm br (W.alloc (.cells #[.int .i64 10, .int .i64 i, .int .i64 e, .int .i64 g, .int .i64 (x : Int), .int .i64 (y : Int)] 53)) o) := Lib.hid (h.below ((Below.refl _ W).alloc (Nat.le_refl _) _))
  have HF0 : Hid (Fb bw bm W (W.alloc (.cells #[.int .i64 10, .int .i64 i, .int .i64 e, .int .i64 g, .int .i64 (x : Int), .int .i64 (y : Int)] 53))) := Lib.hid (Fb.of_below ((Below.refl _ W).alloc (Nat.le_refl _) _) h.bu.lwB)
  have HBX0 : Hid (Box (W.alloc (.cells #[.int .i64 10, .int .i64 i, .int .i64 e, .int .i64 g, .int .i64 (x : Int), .int .i64 (y : Int)] 53)) W.heap.size ⟨10, i, e, g, (x : Int), (y : Int)⟩) := Lib.hid (Box.made W ⟨10, i, e, g, (x : Int), (y : Int)⟩ 53)
  have HA0 := Lib.hid (AsideB.new (g := W.heap.size) h.bu.st ((Below.refl _ W).alloc (Nat.le_refl _) (.cells #[.int .i64 10, .int .i64 i, .int .i64 e, .int .i64 g, .int .i64 (x : Int), .int .i64 (y : Int)] 53)) (Nat.le_refl _) (by simp))
  have LX := Lib.hid hx
  have HN := Lib.hid hn
  have LM := Lib.hid hm
  clear h hx hn hm
  unfold nv
  go_enter Tryd.func38, Tryd.ntmps38
  go_wp2_with fail
  go_quiet (fail)
  replace HS0 : Hid (Si B base bw bm br ((W.alloc (.cells #[.int .i64 10, .int .i64 i, .int .i64 e, .int .i64 g, .int .i64 (x : Int), .int .i64 (y : Int)] 53)).drewN nq) o) := Lib.hid (HS0.out.drewN nq)
  replace HF0 : Hid (Fb bw bm W ((W.alloc (.cells #[.int .i64 10, .int .i64 i, .int .i64 e, .int .i64 g, .int .i64 (x : Int), .int .i64 (y : Int)] 53)).drewN nq)) := Lib.hid (HF0.out.drewN nq)
  replace HBX0 : Hid (Box ((W.alloc (.cells #[.int .i64 10, .int .i64 i, .int .i64 e, .int .i64 g, .int .i64 (x : Int), .int .i64 (y : Int)] 53)).drewN nq) W.heap.size ⟨10, i, e, g, (x : Int), (y : Int)⟩) := Lib.hid HBX0.out
  replace HA0 : Hid (AsideB ((W.alloc (.cells #[.int .i64 10, .int .i64 i, .int .i64 e, .int .i64 g, .int .i64 (x : Int), .int .i64 (y : Int)] 53)).drewN nq) bw bm W.heap.size) := Lib.hid (HA0.out.drewN nq)
  generalize (W.alloc (.cells #[.int .i64 10, .int .i64 i, .int .i64 e, .int .i64 g, .int .i64 (x : Int), .int .i64 (y : Int)] 53)).drewN nq = w0 at *
  generalize W.heap.size = gx at *
  obtain ⟨b0, b1, b2, b3, b4, b5, bf⟩ := HBX0.out
  dsimp only at b0 b1 b2 b3 b4 b5
  clear bf
  go_wp2_with fail
  refine (sIs_any HS0 (c := 2) (x := x) LX.out).mono ?_
  rintro r' w1 ⟨rfl, rfl⟩
  cases h1 : decide (opTp o x = 2)
  · go_wp2_with fail
    have hp := HS0.out.ptr
    go_region_held3 (fun W' => (W'.cell? ⟨br, 0, none⟩ = some (.pointer (some ⟨bw, 0, none⟩)) ∧ W'.cell? ⟨gx, 0, none⟩ = some (.int .i64 10) ∧ W'.cell? ⟨gx, 1, none⟩ = some (.int .i64 i) ∧ W'.cell? ⟨gx, 2, none⟩ = some (.int .i64 e) ∧ W'.cell? ⟨gx, 3, none⟩ = some (.int .i64 g) ∧ W'.cell? ⟨gx, 4, none⟩ = some (.int .i64 (x : Int)) ∧ W'.cell? ⟨gx, 5, none⟩ = some (.int .i64 (y : Int)))) (first | assumption | (refine ⟨?_, ?_, ?_, ?_, ?_, ?_, ?_⟩ <;> assumption))
      (first | (go_at_call 64; refine ((Si.addD HS0 HF0 HA0.out HBX0 HN.out LM.out)).mono ?_; rintro e' w1 ⟨rfl, h3, h4, k0, k1, k2, k3, k4, k5, k6⟩))
    go_wp2
    go_ret
    have h1' := of_decide_eq_false h1
    rw [show simP o ⟨10, i, e, g, (x : Int), (y : Int)⟩ = putNd o ⟨10, i, e, g, (x : Int), (y : Int)⟩ from by unfold simP; simp [h1']]
    exact ⟨rfl, h3, h4⟩
  · go_wp2_with fail
    go_ret
    have h1' := of_decide_eq_true h1
    rw [show simP o ⟨10, i, e, g, (x : Int), (y : Int)⟩ = (x, o) from by unfold simP; simp [h1']]
    exact ⟨rfl, HS0, HF0⟩
set_option maxHeartbeats 4000000 in
theorem sim_11 {B base bw bm br : Nat} {W : World} {o : List Nd} (h : Si B base bw bm br W o) (i e g : Int) (x y : Nat) (hx : x < o.length) (hn : NodeIn o ⟨11, i, e, g, (x : Int), (y : Int)⟩) (hm : o.length ≤ 1000000) :
    Calls Tryd.prog 38 #[.pointer (some ⟨br, 0, none⟩), nv ⟨11, i, e, g, (x : Int), (y : Int)⟩] W (BuOk B base bw bm br W (simP o ⟨11, i, e, g, (x : Int), (y : Int)⟩)) := by
  have lbr := h.as_.lt
  have HS0 : Hid (Si B base bw bm br (W.alloc (.cells #[.int .i64 11, .int .i64 i, .int .i64 e, .int .i64 g, .int .i64 (x : Int), .int .i64 (y : Int)] 53)) o) := Lib.hid (h.below ((Below.refl _ W).alloc (Nat.le_refl _) _))
  have HF0 : Hid (Fb bw bm W (W.alloc (.cells #[.int .i64 11, .int .i64 i, .int .i64 e, .int .i64 g, .int .i64 (x : Int), .int .i64 (y : Int)] 53))) := Lib.hid (Fb.of_below ((Below.refl _ W).alloc (Nat.le_refl _) _) h.bu.lwB)
  have HBX0 : Hid (Box (W.alloc (.cells #[.int .i64 11, .int .i64 i, .int .i64 e, .int .i64 g, .int .i64 (x : Int), .int .i64 (y : Int)] 53)) W.heap.size ⟨11, i, e, g, (x : Int), (y : Int)⟩) := Lib.hid (Box.made W ⟨11, i, e, g, (x : Int), (y : Int)⟩ 53)
  have HA0 := Lib.hid (AsideB.new (g := W.heap.size) h.bu.st ((Below.refl _ W).alloc (Nat.le_refl _) (.cells #[.int .i64 11, .int .i64 i, .int .i64 e, .int .i64 g, .int .i64 (x : Int), .int .i64 (y : Int)] 53)) (Nat.le_refl _) (by simp))
  have LX := Lib.hid hx
  have HN := Lib.hid hn
  have LM := Lib.hid hm
  clear h hx hn hm
  unfold nv
  go_enter Tryd.func38, Tryd.ntmps38
  go_wp2_with fail
  go_quiet (fail)
  replace HS0 : Hid (Si B base bw bm br ((W.alloc (.cells #[.int .i64 11, .int .i64 i, .int .i64 e, .int .i64 g, .int .i64 (x : Int), .int .i64 (y : Int)] 53)).drewN nq) o) := Lib.hid (HS0.out.drewN nq)
  replace HF0 : Hid (Fb bw bm W ((W.alloc (.cells #[.int .i64 11, .int .i64 i, .int .i64 e, .int .i64 g, .int .i64 (x : Int), .int .i64 (y : Int)] 53)).drewN nq)) := Lib.hid (HF0.out.drewN nq)
  replace HBX0 : Hid (Box ((W.alloc (.cells #[.int .i64 11, .int .i64 i, .int .i64 e, .int .i64 g, .int .i64 (x : Int), .int .i64 (y : Int)] 53)).drewN nq) W.heap.size ⟨11, i, e, g, (x : Int), (y : Int)⟩) := Lib.hid HBX0.out
  replace HA0 : Hid (AsideB ((W.alloc (.cells #[.int .i64 11, .int .i64 i, .int .i64 e, .int .i64 g, .int .i64 (x : Int), .int .i64 (y : Int)] 53)).drewN nq) bw bm W.heap.size) := Lib.hid (HA0.out.drewN nq)
  generalize (W.alloc (.cells #[.int .i64 11, .int .i64 i, .int .i64 e, .int .i64 g, .int .i64 (x : Int), .int .i64 (y : Int)] 53)).drewN nq = w0 at *
  generalize W.heap.size = gx at *
  obtain ⟨b0, b1, b2, b3, b4, b5, bf⟩ := HBX0.out
  dsimp only at b0 b1 b2 b3 b4 b5
  clear bf
  go_wp2_with fail
  refine (sIs_any HS0 (c := 1) (x := x) LX.out).mono ?_
  rintro r' w1 ⟨rfl, rfl⟩
  cases h1 : decide (opTp o x = 1)
  · go_wp2_with fail
    have hp := HS0.out.ptr
    go_region_held3 (fun W' => (W'.cell? ⟨br, 0, none⟩ = some (.pointer (some ⟨bw, 0, none⟩)) ∧ W'.cell? ⟨gx, 0, none⟩ = some (.int .i64 11) ∧ W'.cell? ⟨gx, 1, none⟩ = some (.int .i64 i) ∧ W'.cell? ⟨gx, 2, none⟩ = some (.int .i64 e) ∧ W'.cell? ⟨gx, 3, none⟩ = some (.int .i64 g) ∧ W'.cell? ⟨gx, 4, none⟩ = some (.int .i64 (x : Int)) ∧ W'.cell? ⟨gx, 5, none⟩ = some (.int .i64 (y : Int)))) (first | assumption | (refine ⟨?_, ?_, ?_, ?_, ?_, ?_, ?_⟩ <;> assumption))
      (first | (go_at_call 64; refine ((Si.addD HS0 HF0 HA0.out HBX0 HN.out LM.out)).mono ?_; rintro e' w1 ⟨rfl, h3, h4, k0, k1, k2, k3, k4, k5, k6⟩))
    go_wp2
    go_ret
    have h1' := of_decide_eq_false h1
    rw [show simP o ⟨11, i, e, g, (x : Int), (y : Int)⟩ = putNd o ⟨11, i, e, g, (x : Int), (y : Int)⟩ from by unfold simP; simp [boxOp, h1']]
    exact ⟨rfl, h3, h4⟩
  · go_wp2_with fail
    go_ret
    have h1' := of_decide_eq_true h1
    rw [show simP o ⟨11, i, e, g, (x : Int), (y : Int)⟩ = (x, o) from by unfold simP; simp [boxOp, h1']]
    exact ⟨rfl, HS0, HF0⟩
end Go.Proofs.YtcdmchaehafijaaDoor
