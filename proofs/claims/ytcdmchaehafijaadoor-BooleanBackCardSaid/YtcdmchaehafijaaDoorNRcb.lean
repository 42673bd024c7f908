/- Layer 6: texts joined: Gec Ged Ge. -/
import Derived.Test.YtcdmchaehafijaaDoorNRb
import Derived.Test.YtcdmchaehafijaaDoorNRc
/- Layer 8: the simplifier, operators 12 to 15. -/
namespace Go.Proofs.YtcdmchaehafijaaDoor
open Go.RowKit Go.Proofs.Ws Go.Maps
set_option maxRecDepth 100000
set_option maxHeartbeats 4000000 in
theorem sim_12 {B base bw bm br : Nat} {W : World} {o : List Nd} (h : Si B base bw bm br W o) (i e g : Int) (x y : Nat) (hx : x < o.length) (hn : NodeIn o ⟨12, i, e, g, (x : Int), (y : Int)⟩) (hm : o.length ≤ 1000000) :
    Calls Tryd.prog 38 #[.pointer (some ⟨br, 0, none⟩), nv ⟨12, i, e, g, (x : Int), (y : Int)⟩] W (BuOk B base bw bm br W (simP o ⟨12, i, e, g, (x : Int), (y : Int)⟩)) := by
  have lbr := h.as_.lt
  have HS0 : Hid (Si B base bw bm br (W.alloc (.cells #[.int .i64 12, .int .i64 i, .int .i64 e, .int .i64 g, .int .i64 (x : Int), .int .i64 (y : Int)] 53)) o) := Lib.hid (h.below ((Below.refl _ W).alloc (Nat.le_refl _) _))
  have HF0 : Hid (Fb bw bm W (W.alloc (.cells #[.int .i64 12, .int .i64 i, .int .i64 e, .int .i64 g, .int .i64 (x : Int), .int .i64 (y : Int)] 53))) := Lib.hid (Fb.of_below ((Below.refl _ W).alloc (Nat.le_refl _) _) h.bu.lwB)
  have HBX0 : Hid (Box (W.alloc (.cells #[.int .i64 12, .int .i64 i, .int .i64 e, .int .i64 g, .int .i64 (x : Int), .int .i64 (y : Int)] 53)) W.heap.size ⟨12, i, e, g, (x : Int), (y : Int)⟩) := Lib.hid (Box.made W ⟨12, i, e, g, (x : Int), (y : Int)⟩ 53)
  have HA0 := Lib.hid (AsideB.new (g := W.heap.size) h.bu.st ((Below.refl _ W).alloc (Nat.le_refl _) (.cells #[.int .i64 12, .int .i64 i, .int .i64 e, .int .i64 g, .int .i64 (x : Int), .int .i64 (y : Int)] 53)) (Nat.le_refl _) (by simp))
  have LX := Lib.hid hx
  have HN := Lib.hid hn
  have LM := Lib.hid hm
  clear h hx hn hm
  unfold nv
  go_enter Tryd.func38, Tryd.ntmps38
  go_wp2_with fail
  go_quiet (fail)
  replace HS0 : Hid (Si B base bw bm br ((W.alloc (.cells #[.int .i64 12, .int .i64 i, .int .i64 e, .int .i64 g, .int .i64 (x : Int), .int .i64 (y : Int)] 53)).drewN nq) o) := Lib.hid (HS0.out.drewN nq)
  replace HF0 : Hid (Fb bw bm W ((W.alloc (.cells #[.int .i64 12, .int .i64 i, .int .i64 e, .int .i64 g, .int .i64 (x : Int), .int .i64 (y : Int)] 53)).drewN nq)) := Lib.hid (HF0.out.drewN nq)
  replace HBX0 : Hid (Box ((W.alloc (.cells #[.int .i64 12, .int .i64 i, .int .i64 e, .int .i64 g, .int .i64 (x : Int), .int .i64 (y : Int)] 53)).drewN nq) W.heap.size ⟨12, i, e, g, (x : Int), (y : Int)⟩) := Lib.hid HBX0.out
  replace HA0 : Hid (AsideB ((W.alloc (.cells #[.int .i64 12, .int .i64 i, .int .i64 e, .int .i64 g, .int .i64 (x : Int), .int .i64 (y : Int)] 53)).drewN nq) bw bm W.heap.size) := Lib.hid (HA0.out.drewN nq)
  generalize (W.alloc (.cells #[.int .i64 12, .int .i64 i, .int .i64 e, .int .i64 g, .int .i64 (x : Int), .int .i64 (y : Int)] 53)).drewN nq = w0 at *
  generalize W.heap.size = gx at *
  obtain ⟨b0, b1, b2, b3, b4, b5, bf⟩ := HBX0.out
  dsimp only at b0 b1 b2 b3 b4 b5
  clear bf
  go_wp2_with fail
  refine (sIs_any HS0 (c := 1) (x := x) LX.out).mono ?_
  rintro r' w1 ⟨rfl, rfl⟩
  cases h1 : decide (opTp o x = 1)
  · go_wp2_with fail
    have hp := HS0.out.ptr
    go_region_held3 (fun W' => (W'.cell? ⟨br, 0, none⟩ = some (.pointer (some ⟨bw, 0, none⟩)) ∧ W'.cell? ⟨gx, 0, none⟩ = some (.int .i64 12) ∧ W'.cell? ⟨gx, 1, none⟩ = some (.int .i64 i) ∧ W'.cell? ⟨gx, 2, none⟩ = some (.int .i64 e) ∧ W'.cell? ⟨gx, 3, none⟩ = some (.int .i64 g) ∧ W'.cell? ⟨gx, 4, none⟩ = some (.int .i64 (x : Int)) ∧ W'.cell? ⟨gx, 5, none⟩ = some (.int .i64 (y : Int)))) (first | assumption | (refine ⟨?_, ?_, ?_, ?_, ?_, ?_, ?_⟩ <;> assumption))
      (first | (go_at_call 64; refine ((Si.addD HS0 HF0 HA0.out HBX0 HN.out LM.out)).mono ?_; rintro e' w1 ⟨rfl, h3, h4, k0, k1, k2, k3, k4, k5, k6⟩))
    go_wp2
    go_ret
    have h1' := of_decide_eq_false h1
    rw [show simP o ⟨12, i, e, g, (x : Int), (y : Int)⟩ = putNd o ⟨12, i, e, g, (x : Int), (y : Int)⟩ from by unfold simP; simp [boxOp, h1']]
    exact ⟨rfl, h3, h4⟩
  · go_wp2_with fail
    go_ret
    have h1' := of_decide_eq_true h1
    rw [show simP o ⟨12, i, e, g, (x : Int), (y : Int)⟩ = (x, o) from by unfold simP; simp [boxOp, h1']]
    exact ⟨rfl, HS0, HF0⟩
set_option maxHeartbeats 4000000 in
theorem sim_13 {B base bw bm br : Nat} {W : World} {o : List Nd} (h : Si B base bw bm br W o) (i e g : Int) (x y : Nat) (hx : x < o.length) (hy : y < o.length) (hn : NodeIn o ⟨13, i, e, g, (x : Int), (y : Int)⟩) (hm : o.length ≤ 1000000) :
    Calls Tryd.prog 38 #[.pointer (some ⟨br, 0, none⟩), nv ⟨13, i, e, g, (x : Int), (y : Int)⟩] W (BuOk B base bw bm br W (simP o ⟨13, i, e, g, (x : Int), (y : Int)⟩)) := by
  have lbr := h.as_.lt
  have HS0 : Hid (Si B base bw bm br (W.alloc (.cells #[.int .i64 13, .int .i64 i, .int .i64 e, .int .i64 g, .int .i64 (x : Int), .int .i64 (y : Int)] 53)) o) := Lib.hid (h.below ((Below.refl _ W).alloc (Nat.le_refl _) _))
  have HF0 : Hid (Fb bw bm W (W.alloc (.cells #[.int .i64 13, .int .i64 i, .int .i64 e, .int .i64 g, .int .i64 (x : Int), .int .i64 (y : Int)] 53))) := Lib.hid (Fb.of_below ((Below.refl _ W).alloc (Nat.le_refl _) _) h.bu.lwB)
  have HBX0 : Hid (Box (W.alloc (.cells #[.int .i64 13, .int .i64 i, .int .i64 e, .int .i64 g, .int .i64 (x : Int), .int .i64 (y : Int)] 53)) W.heap.size ⟨13, i, e, g, (x : Int), (y : Int)⟩) := Lib.hid (Box.made W ⟨13, i, e, g, (x : Int), (y : Int)⟩ 53)
  have HA0 := Lib.hid (AsideB.new (g := W.heap.size) h.bu.st ((Below.refl _ W).alloc (Nat.le_refl _) (.cells #[.int .i64 13, .int .i64 i, .int .i64 e, .int .i64 g, .int .i64 (x : Int), .int .i64 (y : Int)] 53)) (Nat.le_refl _) (by simp))
  have LX := Lib.hid hx
  have LY := Lib.hid hy
  have HN := Lib.hid hn
  have LM := Lib.hid hm
  clear h hx hy hn hm
  unfold nv
  go_enter Tryd.func38, Tryd.ntmps38
  go_wp2_with fail
  go_quiet (fail)
  replace HS0 : Hid (Si B base bw bm br ((W.alloc (.cells #[.int .i64 13, .int .i64 i, .int .i64 e, .int .i64 g, .int .i64 (x : Int), .int .i64 (y : Int)] 53)).drewN nq) o) := Lib.hid (HS0.out.drewN nq)
  replace HF0 : Hid (Fb bw bm W ((W.alloc (.cells #[.int .i64 13, .int .i64 i, .int .i64 e, .int .i64 g, .int .i64 (x : Int), .int .i64 (y : Int)] 53)).drewN nq)) := Lib.hid (HF0.out.drewN nq)
  replace HBX0 : Hid (Box ((W.alloc (.cells #[.int .i64 13, .int .i64 i, .int .i64 e, .int .i64 g, .int .i64 (x : Int), .int .i64 (y : Int)] 53)).drewN nq) W.heap.size ⟨13, i, e, g, (x : Int), (y : Int)⟩) := Lib.hid HBX0.out
  replace HA0 : Hid (AsideB ((W.alloc (.cells #[.int .i64 13, .int .i64 i, .int .i64 e, .int .i64 g, .int .i64 (x : Int), .int .i64 (y : Int)] 53)).drewN nq) bw bm W.heap.size) := Lib.hid (HA0.out.drewN nq)
  generalize (W.alloc (.cells #[.int .i64 13, .int .i64 i, .int .i64 e, .int .i64 g, .int .i64 (x : Int), .int .i64 (y : Int)] 53)).drewN nq = w0 at *
  generalize W.heap.size = gx at *
  obtain ⟨b0, b1, b2, b3, b4, b5, bf⟩ := HBX0.out
  dsimp only at b0 b1 b2 b3 b4 b5
  clear bf
  go_wp2_with fail
  refine (sIs_any HS0 (c := 2) (x := x) LX.out).mono ?_
  rintro r' w1 ⟨rfl, rfl⟩
  cases h2 : decide (opTp o x = 2)
  · go_wp2_with fail
    refine (sIs_any HS0 (c := 1) (x := y) LY.out).mono ?_
    rintro r' w1 ⟨rfl, rfl⟩
    cases h5 : decide (opTp o y = 1)
    · go_wp2_with fail
      have hp := HS0.out.ptr
      go_region_held3 (fun W' => (W'.cell? ⟨br, 0, none⟩ = some (.pointer (some ⟨bw, 0, none⟩)) ∧ W'.cell? ⟨gx, 0, none⟩ = some (.int .i64 13) ∧ W'.cell? ⟨gx, 1, none⟩ = some (.int .i64 i) ∧ W'.cell? ⟨gx, 2, none⟩ = some (.int .i64 e) ∧ W'.cell? ⟨gx, 3, none⟩ = some (.int .i64 g) ∧ W'.cell? ⟨gx, 4, none⟩ = some (.int .i64 (x : Int)) ∧ W'.cell? ⟨gx, 5, none⟩ = some (.int .i64 (y : Int)))) (first | assumption | (refine ⟨?_, ?_, ?_, ?_, ?_, ?_, ?_⟩ <;> assumption))
        (first | (go_at_call 64; refine ((Si.addD HS0 HF0 HA0.out HBX0 HN.out LM.out)).mono ?_; rintro e' w1 ⟨rfl, h3, h4, k0, k1, k2, k3, k4, k5, k6⟩))
      go_wp2
      go_ret
      have h2' := of_decide_eq_false h2
      have h5' := of_decide_eq_false h5
      rw [show simP o ⟨13, i, e, g, (x : Int), (y : Int)⟩ = putNd o ⟨13, i, e, g, (x : Int), (y : Int)⟩ from by unfold simP; simp [boxOp, h2', h5']]
      exact ⟨rfl, h3, h4⟩
    · go_wp2_with fail
      refine (sConst_any HS0 HF0 (c := 1) (by omega) LM.out).mono ?_
      rintro r' w1 ⟨rfl, h3, h4⟩
      go_wp2
      go_ret
      have h2' := of_decide_eq_false h2
      have h5' := of_decide_eq_true h5
      rw [show simP o ⟨13, i, e, g, (x : Int), (y : Int)⟩ = cPut o 1 from by unfold simP; simp [boxOp, h2', h5']]
      exact ⟨rfl, h3, h4⟩
  · go_wp2_with fail
    refine (sConst_any HS0 HF0 (c := 1) (by omega) LM.out).mono ?_
    rintro r' w1 ⟨rfl, h3, h4⟩
    go_wp2
    go_ret
    have h2' := of_decide_eq_true h2
    rw [show simP o ⟨13, i, e, g, (x : Int), (y : Int)⟩ = cPut o 1 from by unfold simP; simp [boxOp, h2']]
    exact ⟨rfl, h3, h4⟩
set_option maxHeartbeats 4000000 in
theorem sim_14 {B base bw bm br : Nat} {W : World} {o : List Nd} (h : Si B base bw bm br W o) (i e g : Int) (x y : Nat) (hx : x < o.length) (hy : y < o.length) (hn : NodeIn o ⟨14, i, e, g, (x : Int), (y : Int)⟩) (hm : o.length ≤ 1000000) :
    Calls Tryd.prog 38 #[.pointer (some ⟨br, 0, none⟩), nv ⟨14, i, e, g, (x : Int), (y : Int)⟩] W (BuOk B base bw bm br W (simP o ⟨14, i, e, g, (x : Int), (y : Int)⟩)) := by
  have lbr := h.as_.lt
  have HS0 : Hid (Si B base bw bm br (W.alloc (.cells #[.int .i64 14, .int .i64 i, .int .i64 e, .int .i64 g, .int .i64 (x : Int), .int .i64 (y : Int)] 53)) o) := Lib.hid (h.below ((Below.refl _ W).alloc (Nat.le_refl _) _))
  have HF0 : Hid (Fb bw bm W (W.alloc (.cells #[.int .i64 14, .int .i64 i, .int .i64 e, .int .i64 g, .int .i64 (x : Int), .int .i64 (y : Int)] 53))) := Lib.hid (Fb.of_below ((Below.refl _ W).alloc (Nat.le_refl _) _) h.bu.lwB)
  have HBX0 : Hid (Box (W.alloc (.cells #[.int .i64 14, .int .i64 i, .int .i64 e, .int .i64 g, .int .i64 (x : Int), .int .i64 (y : Int)] 53)) W.heap.size ⟨14, i, e, g, (x : Int), (y : Int)⟩) := Lib.hid (Box.made W ⟨14, i, e, g, (x : Int), (y : Int)⟩ 53)
  have HA0 := Lib.hid (AsideB.new (g := W.heap.size) h.bu.st ((Below.refl _ W).alloc (Nat.le_refl _) (.cells #[.int .i64 14, .int .i64 i, .int .i64 e, .int .i64 g, .int .i64 (x : Int), .int .i64 (y : Int)] 53)) (Nat.le_refl _) (by simp))
  have LX := Lib.hid hx
  have LY := Lib.hid hy
  have HN := Lib.hid hn
  have LM := Lib.hid hm
  clear h hx hy hn hm
  unfold nv
  go_enter Tryd.func38, Tryd.ntmps38
  go_wp2_with fail
  go_quiet (fail)
  replace HS0 : Hid (Si B base bw bm br ((W.alloc (.cells #[.int .i64 14, .int .i64 i, .int .i64 e, .int .i64 g, .int .i64 (x : Int), .int .i64 (y : Int)] 53)).drewN nq) o) := Lib.hid (HS0.out.drewN nq)
  replace HF0 : Hid (Fb bw bm W ((W.alloc (.cells #[.int .i64 14, .int .i64 i, .int .i64 e, .int .i64 g, .int .i64 (x : Int), .int .i64 (y : Int)] 53)).drewN nq)) := Lib.hid (HF0.out.drewN nq)
  replace HBX0 : Hid (Box ((W.alloc (.cells #[.int .i64 14, .int .i64 i, .int .i64 e, .int .i64 g, .int .i64 (x : Int), .int .i64 (y : Int)] 53)).drewN nq) W.heap.size ⟨14, i, e, g, (x : Int), (y : Int)⟩) := Lib.hid HBX0.out
  replace HA0 : Hid (AsideB ((W.alloc (.cells #[.int .i64 14, .int .i64 i, .int .i64 e, .int .i64 g, .int .i64 (x : Int), .int .i64 (y : Int)] 53)).drewN nq) bw bm W.heap.size) := Lib.hid (HA0.out.drewN nq)
  generalize (W.alloc (.cells #[.int .i64 14, .int .i64 i, .int .i64 e, .int .i64 g, .int .i64 (x : Int), .int .i64 (y : Int)] 53)).drewN nq = w0 at *
  generalize W.heap.size = gx at *
  obtain ⟨b0, b1, b2, b3, b4, b5, bf⟩ := HBX0.out
  dsimp only at b0 b1 b2 b3 b4 b5
  clear bf
  go_wp2_with fail
  refine (sIs_any HS0 (c := 2) (x := x) LX.out).mono ?_
  rintro r' w1 ⟨rfl, rfl⟩
  cases h2 : decide (opTp o x = 2)
  · go_wp2_with fail
    refine (sIs_any HS0 (c := 1) (x := y) LY.out).mono ?_
    rintro r' w1 ⟨rfl, rfl⟩
    cases h5 : decide (opTp o y = 1)
    · go_wp2_with fail
      have hp := HS0.out.ptr
      go_region_held3 (fun W' => (W'.cell? ⟨br, 0, none⟩ = some (.pointer (some ⟨bw, 0, none⟩)) ∧ W'.cell? ⟨gx, 0, none⟩ = some (.int .i64 14) ∧ W'.cell? ⟨gx, 1, none⟩ = some (.int .i64 i) ∧ W'.cell? ⟨gx, 2, none⟩ = some (.int .i64 e) ∧ W'.cell? ⟨gx, 3, none⟩ = some (.int .i64 g) ∧ W'.cell? ⟨gx, 4, none⟩ = some (.int .i64 (x : Int)) ∧ W'.cell? ⟨gx, 5, none⟩ = some (.int .i64 (y : Int)))) (first | assumption | (refine ⟨?_, ?_, ?_, ?_, ?_, ?_, ?_⟩ <;> assumption))
        (first | (go_at_call 64; refine ((Si.addD HS0 HF0 HA0.out HBX0 HN.out LM.out)).mono ?_; rintro e' w1 ⟨rfl, h3, h4, k0, k1, k2, k3, k4, k5, k6⟩))
      go_wp2
      go_ret
      have h2' := of_decide_eq_false h2
      have h5' := of_decide_eq_false h5
      rw [show simP o ⟨14, i, e, g, (x : Int), (y : Int)⟩ = putNd o ⟨14, i, e, g, (x : Int), (y : Int)⟩ from by unfold simP; simp [boxOp, h2', h5']]
      exact ⟨rfl, h3, h4⟩
    · go_wp2_with fail
      refine (sConst_any HS0 HF0 (c := 1) (by omega) LM.out).mono ?_
      rintro r' w1 ⟨rfl, h3, h4⟩
      go_wp2
      go_ret
      have h2' := of_decide_eq_false h2
      have h5' := of_decide_eq_true h5
      rw [show simP o ⟨14, i, e, g, (x : Int), (y : Int)⟩ = cPut o 1 from by unfold simP; simp [boxOp, h2', h5']]
      exact ⟨rfl, h3, h4⟩
  · go_wp2_with fail
    refine (sConst_any HS0 HF0 (c := 1) (by omega) LM.out).mono ?_
    rintro r' w1 ⟨rfl, h3, h4⟩
    go_wp2
    go_ret
    have h2' := of_decide_eq_true h2
    rw [show simP o ⟨14, i, e, g, (x : Int), (y : Int)⟩ = cPut o 1 from by unfold simP; simp [boxOp, h2']]
    exact ⟨rfl, h3, h4⟩
set_option maxHeartbeats 4000000 in
theorem sim_15 {B base bw bm br : Nat} {W : World} {o : List Nd} (h : Si B base bw bm br W o) (i e g : Int) (x y : Nat) (hx : x < o.length) (hn : NodeIn o ⟨15, i, e, g, (x : Int), (y : Int)⟩) (hm : o.length ≤ 1000000) :
    Calls Tryd.prog 38 #[.pointer (some ⟨br, 0, none⟩), nv ⟨15, i, e, g, (x : Int), (y : Int)⟩] W (BuOk B base bw bm br W (simP o ⟨15, i, e, g, (x : Int), (y : Int)⟩)) := by
  have lbr := h.as_.lt
  have HS0 : Hid (Si B base bw bm br (W.alloc (.cells #[.int .i64 15, .int .i64 i, .int .i64 e, .int .i64 g, .int .i64 (x : Int), .int .i64 (y : Int)] 53)) o) := Lib.hid (h.below ((Below.refl _ W).alloc (Nat.le_refl _) _))
  have HF0 : Hid (Fb bw bm W (W.alloc (.cells #[.int .i64 15, .int .i64 i, .int .i64 e, .int .i64 g, .int .i64 (x : Int), .int .i64 (y : Int)] 53))) := Lib.hid (Fb.of_below ((Below.refl _ W).alloc (Nat.le_refl _) _) h.bu.lwB)
  have HBX0 : Hid (Box (W.alloc (.cells #[.int .i64 15, .int .i64 i, .int .i64 e, .int .i64 g, .int .i64 (x : Int), .int .i64 (y : Int)] 53)) W.heap.size ⟨15, i, e, g, (x : Int), (y : Int)⟩) := Lib.hid (Box.made W ⟨15, i, e, g, (x : Int), (y : Int)⟩ 53)
  have HA0 := Lib.hid (AsideB.new (g := W.heap.size) h.bu.st ((Below.refl _ W).alloc (Nat.le_refl _) (.cells #[.int .i64 15, .int .i64 i, .int .i64 e, .int .i64 g, .int .i64 (x : Int), .int .i64 (y : Int)] 53)) (Nat.le_refl _) (by simp))
  have LX := Lib.hid hx
  have HN := Lib.hid hn
  have LM := Lib.hid hm
  clear h hx hn hm
  unfold nv
  go_enter Tryd.func38, Tryd.ntmps38
  go_wp2_with fail
  go_quiet (fail)
  replace HS0 : Hid (Si B base bw bm br ((W.alloc (.cells #[.int .i64 15, .int .i64 i, .int .i64 e, .int .i64 g, .int .i64 (x : Int), .int .i64 (y : Int)] 53)).drewN nq) o) := Lib.hid (HS0.out.drewN nq)
  replace HF0 : Hid (Fb bw bm W ((W.alloc (.cells #[.int .i64 15, .int .i64 i, .int .i64 e, .int .i64 g, .int .i64 (x : Int), .int .i64 (y : Int)] 53)).drewN nq)) := Lib.hid (HF0.out.drewN nq)
  replace HBX0 : Hid (Box ((W.alloc (.cells #[.int .i64 15, .int .i64 i, .int .i64 e, .int .i64 g, .int .i64 (x : Int), .int .i64 (y : Int)] 53)).drewN nq) W.heap.size ⟨15, i, e, g, (x : Int), (y : Int)⟩) := Lib.hid HBX0.out
  replace HA0 : Hid (AsideB ((W.alloc (.cells #[.int .i64 15, .int .i64 i, .int .i64 e, .int .i64 g, .int .i64 (x : Int), .int .i64 (y : Int)] 53)).drewN nq) bw bm W.heap.size) := Lib.hid (HA0.out.drewN nq)
  generalize (W.alloc (.cells #[.int .i64 15, .int .i64 i, .int .i64 e, .int .i64 g, .int .i64 (x : Int), .int .i64 (y : Int)] 53)).drewN nq = w0 at *
  generalize W.heap.size = gx at *
  obtain ⟨b0, b1, b2, b3, b4, b5, bf⟩ := HBX0.out
  dsimp only at b0 b1 b2 b3 b4 b5
  clear bf
  go_wp2_with fail
  refine (sIs_any HS0 (c := 1) (x := x) LX.out).mono ?_
  rintro r' w1 ⟨rfl, rfl⟩
  cases h1 : decide (opTp o x = 1)
  · go_wp2_with fail
    have hp := HS0.out.ptr
    go_region_held3 (fun W' => (W'.cell? ⟨br, 0, none⟩ = some (.pointer (some ⟨bw, 0, none⟩)) ∧ W'.cell? ⟨gx, 0, none⟩ = some (.int .i64 15) ∧ W'.cell? ⟨gx, 1, none⟩ = some (.int .i64 i) ∧ W'.cell? ⟨gx, 2, none⟩ = some (.int .i64 e) ∧ W'.cell? ⟨gx, 3, none⟩ = some (.int .i64 g) ∧ W'.cell? ⟨gx, 4, none⟩ = some (.int .i64 (x : Int)) ∧ W'.cell? ⟨gx, 5, none⟩ = some (.int .i64 (y : Int)))) (first | assumption | (refine ⟨?_, ?_, ?_, ?_, ?_, ?_, ?_⟩ <;> assumption))
      (first | (go_at_call 64; refine ((Si.addD HS0 HF0 HA0.out HBX0 HN.out LM.out)).mono ?_; rintro e' w1 ⟨rfl, h3, h4, k0, k1, k2, k3, k4, k5, k6⟩))
    go_wp2
    go_ret
    have h1' := of_decide_eq_false h1
    rw [show simP o ⟨15, i, e, g, (x : Int), (y : Int)⟩ = putNd o ⟨15, i, e, g, (x : Int), (y : Int)⟩ from by unfold simP; simp [boxOp, h1']]
    exact ⟨rfl, h3, h4⟩
  · go_wp2_with fail
    go_ret
    have h1' := of_decide_eq_true h1
    rw [show simP o ⟨15, i, e, g, (x : Int), (y : Int)⟩ = (x, o) from by unfold simP; simp [boxOp, h1']]
    exact ⟨rfl, HS0, HF0⟩
end Go.Proofs.YtcdmchaehafijaaDoor
/- Layer 8: the simplifier, operators 16 to 21. -/
namespace Go.Proofs.YtcdmchaehafijaaDoor
open Go.RowKit Go.Proofs.Ws Go.Maps
set_option maxRecDepth 100000
set_option maxHeartbeats 4000000 in
theorem sim_16 {B base bw bm br : Nat} {W : World} {o : List Nd} (h : Si B base bw bm br W o) (i e g : Int) (x y : Nat) (hx : x < o.length) (hy : y < o.length) (hn : NodeIn o ⟨16, i, e, g, (x : Int), (y : Int)⟩) (hm : o.length ≤ 1000000) :
    Calls Tryd.prog 38 #[.pointer (some ⟨br, 0, none⟩), nv ⟨16, i, e, g, (x : Int), (y : Int)⟩] W (BuOk B base bw bm br W (simP o ⟨16, i, e, g, (x : Int), (y : Int)⟩)) := by
  have lbr := h.as_.lt
  have HS0 : Hid (Si B base bw bm br (W.alloc (.cells #[.int .i64 16, .int .i64 i, .int .i64 e, .int .i64 g, .int .i64 (x : Int), .int .i64 (y : Int)] 53)) o) := Lib.hid (h.below ((Below.refl _ W).alloc (Nat.le_refl _) _))
  have HF0 : Hid (Fb bw bm W (W.alloc (.cells #[.int .i64 16, .int .i64 i, .int .i64 e, .int .i64 g, .int .i64 (x : Int), .int .i64 (y : Int)] 53))) := Lib.hid (Fb.of_below ((Below.refl _ W).alloc (Nat.le_refl _) _) h.bu.lwB)
  have HBX0 : Hid (Box (W.alloc (.cells #[.int .i64 16, .int .i64 i, .int .i64 e, .int .i64 g, .int .i64 (x : Int), .int .i64 (y : Int)] 53)) W.heap.size ⟨16, i, e, g, (x : Int), (y : Int)⟩) := Lib.hid (Box.made W ⟨16, i, e, g, (x : Int), (y : Int)⟩ 53)
  have HA0 := Lib.hid (AsideB.new (g := W.heap.size) h.bu.st ((Below.refl _ W).alloc (Nat.le_refl _) (.cells #[.int .i64 16, .int .i64 i, .int .i64 e, .int .i64 g, .int .i64 (x : Int), .int .i64 (y : Int)] 53)) (Nat.le_refl _) (by simp))
  have LX := Lib.hid hx
  have LY := Lib.hid hy
  have HN := Lib.hid hn
  have LM := Lib.hid hm
  clear h hx hy hn hm
  unfold nv
  go_enter Tryd.func38, Tryd.ntmps38
  go_wp2_with fail
  go_quiet (fail)
  replace HS0 : Hid (Si B base bw bm br ((W.alloc (.cells #[.int .i64 16, .int .i64 i, .int .i64 e, .int .i64 g, .int .i64 (x : Int), .int .i64 (y : Int)] 53)).drewN nq) o) := Lib.hid (HS0.out.drewN nq)
  replace HF0 : Hid (Fb bw bm W ((W.alloc (.cells #[.int .i64 16, .int .i64 i, .int .i64 e, .int .i64 g, .int .i64 (x : Int), .int .i64 (y : Int)] 53)).drewN nq)) := Lib.hid (HF0.out.drewN nq)
  replace HBX0 : Hid (Box ((W.alloc (.cells #[.int .i64 16, .int .i64 i, .int .i64 e, .int .i64 g, .int .i64 (x : Int), .int .i64 (y : Int)] 53)).drewN nq) W.heap.size ⟨16, i, e, g, (x : Int), (y : Int)⟩) := Lib.hid HBX0.out
  replace HA0 : Hid (AsideB ((W.alloc (.cells #[.int .i64 16, .int .i64 i, .int .i64 e, .int .i64 g, .int .i64 (x : Int), .int .i64 (y : Int)] 53)).drewN nq) bw bm W.heap.size) := Lib.hid (HA0.out.drewN nq)
  generalize (W.alloc (.cells #[.int .i64 16, .int .i64 i, .int .i64 e, .int .i64 g, .int .i64 (x : Int), .int .i64 (y : Int)] 53)).drewN nq = w0 at *
  generalize W.heap.size = gx at *
  obtain ⟨b0, b1, b2, b3, b4, b5, bf⟩ := HBX0.out
  dsimp only at b0 b1 b2 b3 b4 b5
  clear bf
  go_wp2_with fail
  refine (sIs_any HS0 (c := 1) (x := x) LX.out).mono ?_
  rintro r' w1 ⟨rfl, rfl⟩
  cases h1 : decide (opTp o x = 1)
  · go_wp2_with fail
    refine (sIs_any HS0 (c := 2) (x := x) LX.out).mono ?_
    rintro r' w1 ⟨rfl, rfl⟩
    cases h2 : decide (opTp o x = 2)
    · go_wp2_with fail
      refine (sIs_any HS0 (c := 1) (x := y) LY.out).mono ?_
      rintro r' w1 ⟨rfl, rfl⟩
      cases h5 : decide (opTp o y = 1)
      · go_wp2_with fail
        have hp := HS0.out.ptr
        go_region_held3 (fun W' => (W'.cell? ⟨br, 0, none⟩ = some (.pointer (some ⟨bw, 0, none⟩)) ∧ W'.cell? ⟨gx, 0, none⟩ = some (.int .i64 16) ∧ W'.cell? ⟨gx, 1, none⟩ = some (.int .i64 i) ∧ W'.cell? ⟨gx, 2, none⟩ = some (.int .i64 e) ∧ W'.cell? ⟨gx, 3, none⟩ = some (.int .i64 g) ∧ W'.cell? ⟨gx, 4, none⟩ = some (.int .i64 (x : Int)) ∧ W'.cell? ⟨gx, 5, none⟩ = some (.int .i64 (y : Int)))) (first | assumption | (refine ⟨?_, ?_, ?_, ?_, ?_, ?_, ?_⟩ <;> assumption))
          (first | (go_at_call 64; refine ((Si.addD HS0 HF0 HA0.out HBX0 HN.out LM.out)).mono ?_; rintro e' w1 ⟨rfl, h3, h4, k0, k1, k2, k3, k4, k5, k6⟩))
        go_wp2
        go_ret
        have h1' := of_decide_eq_false h1
        have h2' := of_decide_eq_false h2
        have h5' := of_decide_eq_false h5
        rw [show simP o ⟨16, i, e, g, (x : Int), (y : Int)⟩ = putNd o ⟨16, i, e, g, (x : Int), (y : Int)⟩ from by unfold simP; simp [boxOp, h1', h2', h5']]
        exact ⟨rfl, h3, h4⟩
      · go_wp2_with fail
        refine (sConst_any HS0 HF0 (c := 1) (by omega) LM.out).mono ?_
        rintro r' w1 ⟨rfl, h3, h4⟩
        go_wp2
        go_ret
        have h1' := of_decide_eq_false h1
        have h2' := of_decide_eq_false h2
        have h5' := of_decide_eq_true h5
        rw [show simP o ⟨16, i, e, g, (x : Int), (y : Int)⟩ = cPut o 1 from by unfold simP; simp [boxOp, h1', h2', h5']]
        exact ⟨rfl, h3, h4⟩
    · go_wp2_with fail
      refine (sConst_any HS0 HF0 (c := 1) (by omega) LM.out).mono ?_
      rintro r' w1 ⟨rfl, h3, h4⟩
      go_wp2
      go_ret
      have h1' := of_decide_eq_false h1
      have h2' := of_decide_eq_true h2
      rw [show simP o ⟨16, i, e, g, (x : Int), (y : Int)⟩ = cPut o 1 from by unfold simP; simp [boxOp, h2']]
      exact ⟨rfl, h3, h4⟩
  · go_wp2_with fail
    go_ret
    have h1' := of_decide_eq_true h1
    rw [show simP o ⟨16, i, e, g, (x : Int), (y : Int)⟩ = (y, o) from by unfold simP; simp [boxOp, h1']]
    exact ⟨rfl, HS0, HF0⟩
set_option maxHeartbeats 4000000 in
theorem sim_17 {B base bw bm br : Nat} {W : World} {o : List Nd} (h : Si B base bw bm br W o) (i e g : Int) (x y : Nat) (hx : x < o.length) (hn : NodeIn o ⟨17, i, e, g, (x : Int), (y : Int)⟩) (hm : o.length ≤ 1000000) :
    Calls Tryd.prog 38 #[.pointer (some ⟨br, 0, none⟩), nv ⟨17, i, e, g, (x : Int), (y : Int)⟩] W (BuOk B base bw bm br W (simP o ⟨17, i, e, g, (x : Int), (y : Int)⟩)) := by
  have lbr := h.as_.lt
  have HS0 : Hid (Si B base bw bm br (W.alloc (.cells #[.int .i64 17, .int .i64 i, .int .i64 e, .int .i64 g, .int .i64 (x : Int), .int .i64 (y : Int)] 53)) o) := Lib.hid (h.below ((Below.refl _ W).alloc (Nat.le_refl _) _))
  have HF0 : Hid (Fb bw bm W (W.alloc (.cells #[.int .i64 17, .int .i64 i, .int .i64 e, .int .i64 g, .int .i64 (x : Int), .int .i64 (y : Int)] 53))) := Lib.hid (Fb.of_below ((Below.refl _ W).alloc (Nat.le_refl _) _) h.bu.lwB)
  have HBX0 : Hid (Box (W.alloc (.cells #[.int .i64 17, .int .i64 i, .int .i64 e, .int .i64 g, .int .i64 (x : Int), .int .i64 (y : Int)] 53)) W.heap.size ⟨17, i, e, g, (x : Int), (y : Int)⟩) := Lib.hid (Box.made W ⟨17, i, e, g, (x : Int), (y : Int)⟩ 53)
  have HA0 := Lib.hid (AsideB.new (g := W.heap.size) h.bu.st ((Below.refl _ W).alloc (Nat.le_refl _) (.cells #[.int .i64 17, .int .i64 i, .int .i64 e, .int .i64 g, .int .i64 (x : Int), .int .i64 (y : Int)] 53)) (Nat.le_refl _) (by simp))
  have LX := Lib.hid hx
  have HN := Lib.hid hn
  have LM := Lib.hid hm
  clear h hx hn hm
  unfold nv
  go_enter Tryd.func38, Tryd.ntmps38
  go_wp2_with fail
  go_quiet (fail)
  replace HS0 : Hid (Si B base bw bm br ((W.alloc (.cells #[.int .i64 17, .int .i64 i, .int .i64 e, .int .i64 g, .int .i64 (x : Int), .int .i64 (y : Int)] 53)).drewN nq) o) := Lib.hid (HS0.out.drewN nq)
  replace HF0 : Hid (Fb bw bm W ((W.alloc (.cells #[.int .i64 17, .int .i64 i, .int .i64 e, .int .i64 g, .int .i64 (x : Int), .int .i64 (y : Int)] 53)).drewN nq)) := Lib.hid (HF0.out.drewN nq)
  replace HBX0 : Hid (Box ((W.alloc (.cells #[.int .i64 17, .int .i64 i, .int .i64 e, .int .i64 g, .int .i64 (x : Int), .int .i64 (y : Int)] 53)).drewN nq) W.heap.size ⟨17, i, e, g, (x : Int), (y : Int)⟩) := Lib.hid HBX0.out
  replace HA0 : Hid (AsideB ((W.alloc (.cells #[.int .i64 17, .int .i64 i, .int .i64 e, .int .i64 g, .int .i64 (x : Int), .int .i64 (y : Int)] 53)).drewN nq) bw bm W.heap.size) := Lib.hid (HA0.out.drewN nq)
  generalize (W.alloc (.cells #[.int .i64 17, .int .i64 i, .int .i64 e, .int .i64 g, .int .i64 (x : Int), .int .i64 (y : Int)] 53)).drewN nq = w0 at *
  generalize W.heap.size = gx at *
  obtain ⟨b0, b1, b2, b3, b4, b5, bf⟩ := HBX0.out
  dsimp only at b0 b1 b2 b3 b4 b5
  clear bf
  go_wp2_with fail
  refine (sIs_any HS0 (c := 1) (x := x) LX.out).mono ?_
  rintro r' w1 ⟨rfl, rfl⟩
  cases h1 : decide (opTp o x = 1)
  · go_wp2_with fail
    have hp := HS0.out.ptr
    go_region_held3 (fun W' => (W'.cell? ⟨br, 0, none⟩ = some (.pointer (some ⟨bw, 0, none⟩)) ∧ W'.cell? ⟨gx, 0, none⟩ = some (.int .i64 17) ∧ W'.cell? ⟨gx, 1, none⟩ = some (.int .i64 i) ∧ W'.cell? ⟨gx, 2, none⟩ = some (.int .i64 e) ∧ W'.cell? ⟨gx, 3, none⟩ = some (.int .i64 g) ∧ W'.cell? ⟨gx, 4, none⟩ = some (.int .i64 (x : Int)) ∧ W'.cell? ⟨gx, 5, none⟩ = some (.int .i64 (y : Int)))) (first | assumption | (refine ⟨?_, ?_, ?_, ?_, ?_, ?_, ?_⟩ <;> assumption))
      (first | (go_at_call 64; refine ((Si.addD HS0 HF0 HA0.out HBX0 HN.out LM.out)).mono ?_; rintro e' w1 ⟨rfl, h3, h4, k0, k1, k2, k3, k4, k5, k6⟩))
    go_wp2
    go_ret
    have h1' := of_decide_eq_false h1
    rw [show simP o ⟨17, i, e, g, (x : Int), (y : Int)⟩ = putNd o ⟨17, i, e, g, (x : Int), (y : Int)⟩ from by unfold simP; simp [boxOp, h1']]
    exact ⟨rfl, h3, h4⟩
  · go_wp2_with fail
    go_ret
    have h1' := of_decide_eq_true h1
    rw [show simP o ⟨17, i, e, g, (x : Int), (y : Int)⟩ = (x, o) from by unfold simP; simp [boxOp, h1']]
    exact ⟨rfl, HS0, HF0⟩
set_option maxHeartbeats 4000000 in
theorem sim_18 {B base bw bm br : Nat} {W : World} {o : List Nd} (h : Si B base bw bm br W o) (i e g : Int) (x y : Nat) (hx : x < o.length) (hn : NodeIn o ⟨18, i, e, g, (x : Int), (y : Int)⟩) (hm : o.length ≤ 1000000) :
    Calls Tryd.prog 38 #[.pointer (some ⟨br, 0, none⟩), nv ⟨18, i, e, g, (x : Int), (y : Int)⟩] W (BuOk B base bw bm br W (simP o ⟨18, i, e, g, (x : Int), (y : Int)⟩)) := by
  have lbr := h.as_.lt
  have HS0 : Hid (Si B base bw bm br (W.alloc (.cells #[.int .i64 18, .int .i64 i, .int .i64 e, .int .i64 g, .int .i64 (x : Int), .int .i64 (y : Int)] 53)) o) := Lib.hid (h.below ((Below.refl _ W).alloc (Nat.le_refl _) _))
  have HF0 : Hid (Fb bw bm W (W.alloc (.cells #[.int .i64 18, .int .i64 i, .int .i64 e, .int .i64 g, .int .i64 (x : Int), .int .i64 (y : Int)] 53))) := Lib.hid (Fb.of_below ((Below.refl _ W).alloc (Nat.le_refl _) _) h.bu.lwB)
  have HBX0 : Hid (Box (W.alloc (.cells #[.int .i64 18, .int .i64 i, .int .i64 e, .int .i64 g, .int .i64 (x : Int), .int .i64 (y : Int)] 53)) W.heap.size ⟨18, i, e, g, (x : Int), (y : Int)⟩) := Lib.hid (Box.made W ⟨18, i, e, g, (x : Int), (y : Int)⟩ 53)
  have HA0 := Lib.hid (AsideB.new (g := W.heap.size) h.bu.st ((Below.refl _ W).alloc (Nat.le_refl _) (.cells #[.int .i64 18, .int .i64 i, .int .i64 e, .int .i64 g, .int .i64 (x : Int), .int .i64 (y : Int)] 53)) (Nat.le_refl _) (by simp))
  have LX := Lib.hid hx
  have HN := Lib.hid hn
  have LM := Lib.hid hm
  clear h hx hn hm
  unfold nv
  go_enter Tryd.func38, Tryd.ntmps38
  go_wp2_with fail
  go_quiet (fail)
  replace HS0 : Hid (Si B base bw bm br ((W.alloc (.cells #[.int .i64 18, .int .i64 i, .int .i64 e, .int .i64 g, .int .i64 (x : Int), .int .i64 (y : Int)] 53)).drewN nq) o) := Lib.hid (HS0.out.drewN nq)
  replace HF0 : Hid (Fb bw bm W ((W.alloc (.cells #[.int .i64 18, .int .i64 i, .int .i64 e, .int .i64 g, .int .i64 (x : Int), .int .i64 (y : Int)] 53)).drewN nq)) := Lib.hid (HF0.out.drewN nq)
  replace HBX0 : Hid (Box ((W.alloc (.cells #[.int .i64 18, .int .i64 i, .int .i64 e, .int .i64 g, .int .i64 (x : Int), .int .i64 (y : Int)] 53)).drewN nq) W.heap.size ⟨18, i, e, g, (x : Int), (y : Int)⟩) := Lib.hid HBX0.out
  replace HA0 : Hid (AsideB ((W.alloc (.cells #[.int .i64 18, .int .i64 i, .int .i64 e, .int .i64 g, .int .i64 (x : Int), .int .i64 (y : Int)] 53)).drewN nq) bw bm W.heap.size) := Lib.hid (HA0.out.drewN nq)
  generalize (W.alloc (.cells #[.int .i64 18, .int .i64 i, .int .i64 e, .int .i64 g, .int .i64 (x : Int), .int .i64 (y : Int)] 53)).drewN nq = w0 at *
  generalize W.heap.size = gx at *
  obtain ⟨b0, b1, b2, b3, b4, b5, bf⟩ := HBX0.out
  dsimp only at b0 b1 b2 b3 b4 b5
  clear bf
  go_wp2_with fail
  have hp := HS0.out.ptr
  go_region_held3 (fun W' => (W'.cell? ⟨br, 0, none⟩ = some (.pointer (some ⟨bw, 0, none⟩)) ∧ W'.cell? ⟨gx, 0, none⟩ = some (.int .i64 18) ∧ W'.cell? ⟨gx, 1, none⟩ = some (.int .i64 i) ∧ W'.cell? ⟨gx, 2, none⟩ = some (.int .i64 e) ∧ W'.cell? ⟨gx, 3, none⟩ = some (.int .i64 g) ∧ W'.cell? ⟨gx, 4, none⟩ = some (.int .i64 (x : Int)) ∧ W'.cell? ⟨gx, 5, none⟩ = some (.int .i64 (y : Int)))) (first | assumption | (refine ⟨?_, ?_, ?_, ?_, ?_, ?_, ?_⟩ <;> assumption))
    (first | (go_at_call 64; refine ((Si.addD HS0 HF0 HA0.out HBX0 HN.out LM.out)).mono ?_; rintro e' w1 ⟨rfl, h3, h4, k0, k1, k2, k3, k4, k5, k6⟩))
  go_wp2
  go_ret
  rw [show simP o ⟨18, i, e, g, (x : Int), (y : Int)⟩ = putNd o ⟨18, i, e, g, (x : Int), (y : Int)⟩ from by unfold simP; simp [boxOp, ]]
  exact ⟨rfl, h3, h4⟩
set_option maxHeartbeats 4000000 in
theorem sim_19 {B base bw bm br : Nat} {W : World} {o : List Nd} (h : Si B base bw bm br W o) (i e g : Int) (x y : Nat) (hx : x < o.length) (hy : y < o.length) (hn : NodeIn o ⟨19, i, e, g, (x : Int), (y : Int)⟩) (hm : o.length ≤ 1000000) :
    Calls Tryd.prog 38 #[.pointer (some ⟨br, 0, none⟩), nv ⟨19, i, e, g, (x : Int), (y : Int)⟩] W (BuOk B base bw bm br W (simP o ⟨19, i, e, g, (x : Int), (y : Int)⟩)) := by
  have lbr := h.as_.lt
  have HS0 : Hid (Si B base bw bm br (W.alloc (.cells #[.int .i64 19, .int .i64 i, .int .i64 e, .int .i64 g, .int .i64 (x : Int), .int .i64 (y : Int)] 53)) o) := Lib.hid (h.below ((Below.refl _ W).alloc (Nat.le_refl _) _))
  have HF0 : Hid (Fb bw bm W (W.alloc (.cells #[.int .i64 19, .int .i64 i, .int .i64 e, .int .i64 g, .int .i64 (x : Int), .int .i64 (y : Int)] 53))) := Lib.hid (Fb.of_below ((Below.refl _ W).alloc (Nat.le_refl _) _) h.bu.lwB)
  have HBX0 : Hid (Box (W.alloc (.cells #[.int .i64 19, .int .i64 i, .int .i64 e, .int .i64 g, .int .i64 (x : Int), .int .i64 (y : Int)] 53)) W.heap.size ⟨19, i, e, g, (x : Int), (y : Int)⟩) := Lib.hid (Box.made W ⟨19, i, e, g, (x : Int), (y : Int)⟩ 53)
  have HA0 := Lib.hid (AsideB.new (g := W.heap.size) h.bu.st ((Below.refl _ W).alloc (Nat.le_refl _) (.cells #[.int .i64 19, .int .i64 i, .int .i64 e, .int .i64 g, .int .i64 (x : Int), .int .i64 (y : Int)] 53)) (Nat.le_refl _) (by simp))
  have LX := Lib.hid hx
  have LY := Lib.hid hy
  have HN := Lib.hid hn
  have LM := Lib.hid hm
  clear h hx hy hn hm
  unfold nv
  go_enter Tryd.func38, Tryd.ntmps38
  go_wp2_with fail
  go_quiet (fail)
  replace HS0 : Hid (Si B base bw bm br ((W.alloc (.cells #[.int .i64 19, .int .i64 i, .int .i64 e, .int .i64 g, .int .i64 (x : Int), .int .i64 (y : Int)] 53)).drewN nq) o) := Lib.hid (HS0.out.drewN nq)
  replace HF0 : Hid (Fb bw bm W ((W.alloc (.cells #[.int .i64 19, .int .i64 i, .int .i64 e, .int .i64 g, .int .i64 (x : Int), .int .i64 (y : Int)] 53)).drewN nq)) := Lib.hid (HF0.out.drewN nq)
  replace HBX0 : Hid (Box ((W.alloc (.cells #[.int .i64 19, .int .i64 i, .int .i64 e, .int .i64 g, .int .i64 (x : Int), .int .i64 (y : Int)] 53)).drewN nq) W.heap.size ⟨19, i, e, g, (x : Int), (y : Int)⟩) := Lib.hid HBX0.out
  replace HA0 : Hid (AsideB ((W.alloc (.cells #[.int .i64 19, .int .i64 i, .int .i64 e, .int .i64 g, .int .i64 (x : Int), .int .i64 (y : Int)] 53)).drewN nq) bw bm W.heap.size) := Lib.hid (HA0.out.drewN nq)
  generalize (W.alloc (.cells #[.int .i64 19, .int .i64 i, .int .i64 e, .int .i64 g, .int .i64 (x : Int), .int .i64 (y : Int)] 53)).drewN nq = w0 at *
  generalize W.heap.size = gx at *
  obtain ⟨b0, b1, b2, b3, b4, b5, bf⟩ := HBX0.out
  dsimp only at b0 b1 b2 b3 b4 b5
  clear bf
  go_wp2_with fail
  have hp := HS0.out.ptr
  go_region_held3 (fun W' => (W'.cell? ⟨br, 0, none⟩ = some (.pointer (some ⟨bw, 0, none⟩)) ∧ W'.cell? ⟨gx, 0, none⟩ = some (.int .i64 19) ∧ W'.cell? ⟨gx, 1, none⟩ = some (.int .i64 i) ∧ W'.cell? ⟨gx, 2, none⟩ = some (.int .i64 e) ∧ W'.cell? ⟨gx, 3, none⟩ = some (.int .i64 g) ∧ W'.cell? ⟨gx, 4, none⟩ = some (.int .i64 (x : Int)) ∧ W'.cell? ⟨gx, 5, none⟩ = some (.int .i64 (y : Int)))) (first | assumption | (refine ⟨?_, ?_, ?_, ?_, ?_, ?_, ?_⟩ <;> assumption))
    (first | (go_at_call 64; refine ((Si.addD HS0 HF0 HA0.out HBX0 HN.out LM.out)).mono ?_; rintro e' w1 ⟨rfl, h3, h4, k0, k1, k2, k3, k4, k5, k6⟩))
  go_wp2
  go_ret
  rw [show simP o ⟨19, i, e, g, (x : Int), (y : Int)⟩ = putNd o ⟨19, i, e, g, (x : Int), (y : Int)⟩ from by unfold simP; simp [boxOp, ]]
  exact ⟨rfl, h3, h4⟩
set_option maxHeartbeats 4000000 in
theorem sim_20 {B base bw bm br : Nat} {W : World} {o : List Nd} (h : Si B base bw bm br W o) (i e g : Int) (x y : Nat) (hx : x < o.length) (hn : NodeIn o ⟨20, i, e, g, (x : Int), (y : Int)⟩) (hm : o.length ≤ 1000000) :
    Calls Tryd.prog 38 #[.pointer (some ⟨br, 0, none⟩), nv ⟨20, i, e, g, (x : Int), (y : Int)⟩] W (BuOk B base bw bm br W (simP o ⟨20, i, e, g, (x : Int), (y : Int)⟩)) := by
  have lbr := h.as_.lt
  have HS0 : Hid (Si B base bw bm br (W.alloc (.cells #[.int .i64 20, .int .i64 i, .int .i64 e, .int .i64 g, .int .i64 (x : Int), .int .i64 (y : Int)] 53)) o) := Lib.hid (h.below ((Below.refl _ W).alloc (Nat.le_refl _) _))
  have HF0 : Hid (Fb bw bm W (W.alloc (.cells #[.int .i64 20, .int .i64 i, .int .i64 e, .int .i64 g, .int .i64 (x : Int), .int .i64 (y : Int)] 53))) := Lib.hid (Fb.of_below ((Below.refl _ W).alloc (Nat.le_refl _) _) h.bu.lwB)
  have HBX0 : Hid (Box (W.alloc (.cells #[.int .i64 20, .int .i64 i, .int .i64 e, .int .i64 g, .int .i64 (x : Int), .int .i64 (y : Int)] 53)) W.heap.size ⟨20, i, e, g, (x : Int), (y : Int)⟩) := Lib.hid (Box.made W ⟨20, i, e, g, (x : Int), (y : Int)⟩ 53)
  have HA0 := Lib.hid (AsideB.new (g := W.heap.size) h.bu.st ((Below.refl _ W).alloc (Nat.le_refl _) (.cells #[.int .i64 20, .int .i64 i, .int .i64 e, .int .i64 g, .int .i64 (x : Int), .int .i64 (y : Int)] 53)) (Nat.le_refl _) (by simp))
  have LX := Lib.hid hx
  have HN := Lib.hid hn
  have LM := Lib.hid hm
  clear h hx hn hm
  unfold nv
  go_enter Tryd.func38, Tryd.ntmps38
  go_wp2_with fail
  go_quiet (fail)
  replace HS0 : Hid (Si B base bw bm br ((W.alloc (.cells #[.int .i64 20, .int .i64 i, .int .i64 e, .int .i64 g, .int .i64 (x : Int), .int .i64 (y : Int)] 53)).drewN nq) o) := Lib.hid (HS0.out.drewN nq)
  replace HF0 : Hid (Fb bw bm W ((W.alloc (.cells #[.int .i64 20, .int .i64 i, .int .i64 e, .int .i64 g, .int .i64 (x : Int), .int .i64 (y : Int)] 53)).drewN nq)) := Lib.hid (HF0.out.drewN nq)
  replace HBX0 : Hid (Box ((W.alloc (.cells #[.int .i64 20, .int .i64 i, .int .i64 e, .int .i64 g, .int .i64 (x : Int), .int .i64 (y : Int)] 53)).drewN nq) W.heap.size ⟨20, i, e, g, (x : Int), (y : Int)⟩) := Lib.hid HBX0.out
  replace HA0 : Hid (AsideB ((W.alloc (.cells #[.int .i64 20, .int .i64 i, .int .i64 e, .int .i64 g, .int .i64 (x : Int), .int .i64 (y : Int)] 53)).drewN nq) bw bm W.heap.size) := Lib.hid (HA0.out.drewN nq)
  generalize (W.alloc (.cells #[.int .i64 20, .int .i64 i, .int .i64 e, .int .i64 g, .int .i64 (x : Int), .int .i64 (y : Int)] 53)).drewN nq = w0 at *
  generalize W.heap.size = gx at *
  obtain ⟨b0, b1, b2, b3, b4, b5, bf⟩ := HBX0.out
  dsimp only at b0 b1 b2 b3 b4 b5
  clear bf
  go_wp2_with fail
  have hp := HS0.out.ptr
  go_region_held3 (fun W' => (W'.cell? ⟨br, 0, none⟩ = some (.pointer (some ⟨bw, 0, none⟩)) ∧ W'.cell? ⟨gx, 0, none⟩ = some (.int .i64 20) ∧ W'.cell? ⟨gx, 1, none⟩ = some (.int .i64 i) ∧ W'.cell? ⟨gx, 2, none⟩ = some (.int .i64 e) ∧ W'.cell? ⟨gx, 3, none⟩ = some (.int .i64 g) ∧ W'.cell? ⟨gx, 4, none⟩ = some (.int .i64 (x : Int)) ∧ W'.cell? ⟨gx, 5, none⟩ = some (.int .i64 (y : Int)))) (first | assumption | (refine ⟨?_, ?_, ?_, ?_, ?_, ?_, ?_⟩ <;> assumption))
    (first | (go_at_call 64; refine ((Si.addD HS0 HF0 HA0.out HBX0 HN.out LM.out)).mono ?_; rintro e' w1 ⟨rfl, h3, h4, k0, k1, k2, k3, k4, k5, k6⟩))
  go_wp2
  go_ret
  rw [show simP o ⟨20, i, e, g, (x : Int), (y : Int)⟩ = putNd o ⟨20, i, e, g, (x : Int), (y : Int)⟩ from by unfold simP; simp [boxOp, ]]
  exact ⟨rfl, h3, h4⟩
set_option maxHeartbeats 4000000 in
theorem sim_21 {B base bw bm br : Nat} {W : World} {o : List Nd} (h : Si B base bw bm br W o) (i e g : Int) (x y : Nat) (hx : x < o.length) (hy : y < o.length) (hn : NodeIn o ⟨21, i, e, g, (x : Int), (y : Int)⟩) (hm : o.length ≤ 1000000) :
    Calls Tryd.prog 38 #[.pointer (some ⟨br, 0, none⟩), nv ⟨21, i, e, g, (x : Int), (y : Int)⟩] W (BuOk B base bw bm br W (simP o ⟨21, i, e, g, (x : Int), (y : Int)⟩)) := by
  have lbr := h.as_.lt
  have HS0 : Hid (Si B base bw bm br (W.alloc (.cells #[.int .i64 21, .int .i64 i, .int .i64 e, .int .i64 g, .int .i64 (x : Int), .int .i64 (y : Int)] 53)) o) := Lib.hid (h.below ((Below.refl _ W).alloc (Nat.le_refl _) _))
  have HF0 : Hid (Fb bw bm W (W.alloc (.cells #[.int .i64 21, .int .i64 i, .int .i64 e, .int .i64 g, .int .i64 (x : Int), .int .i64 (y : Int)] 53))) := Lib.hid (Fb.of_below ((Below.refl _ W).alloc (Nat.le_refl _) _) h.bu.lwB)
  have HBX0 : Hid (Box (W.alloc (.cells #[.int .i64 21, .int .i64 i, .int .i64 e, .int .i64 g, .int .i64 (x : Int), .int .i64 (y : Int)] 53)) W.heap.size ⟨21, i, e, g, (x : Int), (y : Int)⟩) := Lib.hid (Box.made W ⟨21, i, e, g, (x : Int), (y : Int)⟩ 53)
  have HA0 := Lib.hid (AsideB.new (g := W.heap.size) h.bu.st ((Below.refl _ W).alloc (Nat.le_refl _) (.cells #[.int .i64 21, .int .i64 i, .int .i64 e, .int .i64 g, .int .i64 (x : Int), .int .i64 (y : Int)] 53)) (Nat.le_refl _) (by simp))
  have LX := Lib.hid hx
  have LY := Lib.hid hy
  have HN := Lib.hid hn
  have LM := Lib.hid hm
  clear h hx hy hn hm
  unfold nv
  go_enter Tryd.func38, Tryd.ntmps38
  go_wp2_with fail
  go_quiet (fail)
  replace HS0 : Hid (Si B base bw bm br ((W.alloc (.cells #[.int .i64 21, .int .i64 i, .int .i64 e, .int .i64 g, .int .i64 (x : Int), .int .i64 (y : Int)] 53)).drewN nq) o) := Lib.hid (HS0.out.drewN nq)
  replace HF0 : Hid (Fb bw bm W ((W.alloc (.cells #[.int .i64 21, .int .i64 i, .int .i64 e, .int .i64 g, .int .i64 (x : Int), .int .i64 (y : Int)] 53)).drewN nq)) := Lib.hid (HF0.out.drewN nq)
  replace HBX0 : Hid (Box ((W.alloc (.cells #[.int .i64 21, .int .i64 i, .int .i64 e, .int .i64 g, .int .i64 (x : Int), .int .i64 (y : Int)] 53)).drewN nq) W.heap.size ⟨21, i, e, g, (x : Int), (y : Int)⟩) := Lib.hid HBX0.out
  replace HA0 : Hid (AsideB ((W.alloc (.cells #[.int .i64 21, .int .i64 i, .int .i64 e, .int .i64 g, .int .i64 (x : Int), .int .i64 (y : Int)] 53)).drewN nq) bw bm W.heap.size) := Lib.hid (HA0.out.drewN nq)
  generalize (W.alloc (.cells #[.int .i64 21, .int .i64 i, .int .i64 e, .int .i64 g, .int .i64 (x : Int), .int .i64 (y : Int)] 53)).drewN nq = w0 at *
  generalize W.heap.size = gx at *
  obtain ⟨b0, b1, b2, b3, b4, b5, bf⟩ := HBX0.out
  dsimp only at b0 b1 b2 b3 b4 b5
  clear bf
  go_wp2_with fail
  have hp := HS0.out.ptr
  go_region_held3 (fun W' => (W'.cell? ⟨br, 0, none⟩ = some (.pointer (some ⟨bw, 0, none⟩)) ∧ W'.cell? ⟨gx, 0, none⟩ = some (.int .i64 21) ∧ W'.cell? ⟨gx, 1, none⟩ = some (.int .i64 i) ∧ W'.cell? ⟨gx, 2, none⟩ = some (.int .i64 e) ∧ W'.cell? ⟨gx, 3, none⟩ = some (.int .i64 g) ∧ W'.cell? ⟨gx, 4, none⟩ = some (.int .i64 (x : Int)) ∧ W'.cell? ⟨gx, 5, none⟩ = some (.int .i64 (y : Int)))) (first | assumption | (refine ⟨?_, ?_, ?_, ?_, ?_, ?_, ?_⟩ <;> assumption))
    (first | (go_at_call 64; refine ((Si.addD HS0 HF0 HA0.out HBX0 HN.out LM.out)).mono ?_; rintro e' w1 ⟨rfl, h3, h4, k0, k1, k2, k3, k4, k5, k6⟩))
  go_wp2
  go_ret
  rw [show simP o ⟨21, i, e, g, (x : Int), (y : Int)⟩ = putNd o ⟨21, i, e, g, (x : Int), (y : Int)⟩ from by unfold simP; simp [boxOp, ]]
  exact ⟨rfl, h3, h4⟩
end Go.Proofs.YtcdmchaehafijaaDoor
/- Layer 8: the simplifier. -/
namespace Go.Proofs.YtcdmchaehafijaaDoor
open Go.RowKit Go.Proofs.Ws Go.Maps
set_option maxRecDepth 100000
theorem simplified_any {B base bw bm br : Nat} {W : World} {o : List Nd} (h : Si B base bw bm br W o) (n : Nd) (hn : NodeIn o n) (hm : o.length ≤ 1000000) :
    Calls Tryd.prog 38 #[.pointer (some ⟨br, 0, none⟩), nv n] W (BuOk B base bw bm br W (simP o n)) := by
  obtain ⟨op, i, e, g, x, y⟩ := n
  have hk := hn.kn
  have hx : ∃ k : Nat, x = (k : Int) ∧ (usesX op = true → k < o.length) := by
    have := hn.ops.1
    dsimp only at this
    split at this
    · exact ⟨x.toNat, by omega, fun _ => by omega⟩
    · exact ⟨0, by omega, fun k => absurd k (by assumption)⟩
  have hy : ∃ k : Nat, y = (k : Int) ∧ (usesY op = true → k < o.length) := by
    have := hn.ops.2
    dsimp only at this
    split at this
    · exact ⟨y.toNat, by omega, fun _ => by omega⟩
    · exact ⟨0, by omega, fun k => absurd k (by assumption)⟩
  obtain ⟨a, rfl, hx⟩ := hx
  obtain ⟨b, rfl, hy⟩ := hy
  dsimp only at hk
  rcases known_cases op hk with rfl | rfl | rfl | rfl | rfl | rfl | rfl | rfl | rfl | rfl | rfl | rfl | rfl | rfl | rfl | rfl | rfl | rfl | rfl | rfl | rfl
  · exact sim_1 h i e g a b hn hm
  · exact sim_2 h i e g a b hn hm
  · exact sim_3 h i e g a b hn hm
  · exact sim_4 h i e g a b (hx (by decide)) hn hm
  · exact sim_5 h i e g a b (hx (by decide)) (hy (by decide)) hn hm
  · exact sim_6 h i e g a b (hx (by decide)) (hy (by decide)) hn hm
  · exact sim_7 h i e g a b (hx (by decide)) (hy (by decide)) hn hm
  · exact sim_8 h i e g a b (hx (by decide)) (hy (by decide)) hn hm
  · exact sim_9 h i e g a b (hx (by decide)) hn hm
  · exact sim_10 h i e g a b (hx (by decide)) hn hm
  · exact sim_11 h i e g a b (hx (by decide)) hn hm
  · exact sim_12 h i e g a b (hx (by decide)) hn hm
  · exact sim_13 h i e g a b (hx (by decide)) (hy (by decide)) hn hm
  · exact sim_14 h i e g a b (hx (by decide)) (hy (by decide)) hn hm
  · exact sim_15 h i e g a b (hx (by decide)) hn hm
  · exact sim_16 h i e g a b (hx (by decide)) (hy (by decide)) hn hm
  · exact sim_17 h i e g a b (hx (by decide)) hn hm
  · exact sim_18 h i e g a b (hx (by decide)) hn hm
  · exact sim_19 h i e g a b (hx (by decide)) (hy (by decide)) hn hm
  · exact sim_20 h i e g a b (hx (by decide)) hn hm
  · exact sim_21 h i e g a b (hx (by decide)) (hy (by decide)) hn hm
end Go.Proofs.YtcdmchaehafijaaDoor
