/- Layer 4: equality of signatures by the reference. -/
import Derived.Test.YtichhbnpdhfimaaDoorFc
namespace Go.Proofs.YtichhbnpdhfimaaDoor
open Go.RowKit Go.Proofs.Ws
set_option maxRecDepth 100000 in
set_option maxHeartbeats 4000000 in
theorem pSame_any (v v' : Value) (A F X : List ByteArray) (w : World) (hS : SigR w w.heap.size v A F X) (hS' : SigR w w.heap.size v' A F X) :
    Calls Tryd.prog 35 #[v, v'] w fun e w' => e = .returned (.bool true) ∧ Below w.heap.size w w' := by
  obtain ⟨a0, n0, c0, a1, n1, c1, a2, n2, c2, rfl, s0, s1, s2⟩ := hS
  obtain ⟨b0, m0, d0, b1, m1, d1, b2, m2, d2, rfl, t0, t1, t2⟩ := hS'
  have e0 := s0.1.str_len
  have e1 := s1.1.str_len
  have e2 := s2.1.str_len
  have f0 := t0.1.str_len
  have f1 := t1.1.str_len
  have f2 := t2.1.str_len
  obtain rfl : m0 = n0 := by omega
  obtain rfl : m1 = n1 := by omega
  obtain rfl : m2 = n2 := by omega
  unfold sv
  have HL0 := Lib.hid (fun W (hW : Below w.heap.size w W) => pSameList_any A a0 b0 m0 c0 d0 _ W (s0.1.below hW) (t0.1.below hW) s0.2.2.1)
  have HL1 := Lib.hid (fun W (hW : Below w.heap.size w W) => pSameList_any F a1 b1 m1 c1 d1 _ W (s1.1.below hW) (t1.1.below hW) s1.2.2.1)
  have HL2 := Lib.hid (fun W (hW : Below w.heap.size w W) => pSameList_any X a2 b2 m2 c2 d2 _ W (s2.1.below hW) (t2.1.below hW) s2.2.2.1)
  have HX1 := Lib.hid (@boxed w a0 a1 a2 m0 c0 m1 c1 m2 c2 39)
  have HX2 := Lib.hid (@boxed (w.alloc (.cells #[.slice a0 m0 c0, .slice a1 m1 c1, .slice a2 m2 c2] 39)) b0 b1 b2 m0 d0 m1 d1 m2 d2 39)
  obtain ⟨W1, hW1⟩ : ∃ W1, W1 = (w.alloc (.cells #[.slice a0 m0 c0, .slice a1 m1 c1, .slice a2 m2 c2] 39)).alloc (.cells #[.slice b0 m0 d0, .slice b1 m1 d1, .slice b2 m2 d2] 39) := ⟨_, rfl⟩
  have HC : Hid (∀ q, (W1.drewN q).cell? ⟨w.heap.size, 0, none⟩ = some (.slice a0 m0 c0) ∧ (W1.drewN q).cell? ⟨w.heap.size, 1, none⟩ = some (.slice a1 m1 c1) ∧ (W1.drewN q).cell? ⟨w.heap.size, 2, none⟩ = some (.slice a2 m2 c2) ∧
      (W1.drewN q).cell? ⟨w.heap.size + 1, 0, none⟩ = some (.slice b0 m0 d0) ∧ (W1.drewN q).cell? ⟨w.heap.size + 1, 1, none⟩ = some (.slice b1 m1 d1) ∧ (W1.drewN q).cell? ⟨w.heap.size + 1, 2, none⟩ = some (.slice b2 m2 d2)) := Lib.hid (fun q => by
    have h1 := HX1.out (W1.drewN q) (below_drewN (by rw [hW1]; exact (Below.refl _ _).alloc (by simp) _) q)
    have h2 := HX2.out (W1.drewN q) (below_drewN (by rw [hW1]; exact Below.refl _ _) q)
    have hs : (w.alloc (.cells #[.slice a0 m0 c0, .slice a1 m1 c1, .slice a2 m2 c2] 39)).heap.size = w.heap.size + 1 := by simp
    rw [hs] at h2
    exact ⟨h1.1, h1.2.1, h1.2.2, h2.1, h2.2.1, h2.2.2⟩)
  have HB : Hid (∀ q, Below w.heap.size w (W1.drewN q)) := Lib.hid (fun q => below_drewN (by rw [hW1]; exact ((Below.refl _ w).alloc (Nat.le_refl _) _).alloc (by simp) _) q)
  have hc := HC.out 0
  obtain ⟨x0, x1, x2, x3, x4, x5⟩ := hc
  have HBx := Lib.hid (HB.out 0)
  simp only [World.drewN_zero] at x0 x1 x2 x3 x4 x5
  clear s0 s1 s2 t0 t1 t2 e0 e1 e2 f0 f1 f2 HX1 HX2
  go_enter Tryd.func35, Tryd.ntmps35
  go_wp2_with fail
  rw [← hW1]
  refine (HL0.out W1 HBx.out).mono ?_
  rintro e W2 ⟨rfl, q0, rfl⟩
  have hc := HC.out q0
  obtain ⟨y0, y1, y2, y3, y4, y5⟩ := hc
  go_wp2_with fail
  (try simp only [← hW1])
  refine (HL1.out _ (HB.out q0)).mono ?_
  rintro e W3 ⟨rfl, q1, rfl⟩
  simp only [World.drewN_drewN]
  have hc := HC.out (q0 + q1)
  obtain ⟨z0, z1, z2, z3, z4, z5⟩ := hc
  go_wp2_with fail
  (try simp only [← hW1])
  refine (HL2.out _ (HB.out (q0 + q1))).mono ?_
  rintro e W4 ⟨rfl, q2, rfl⟩
  simp only [World.drewN_drewN]
  go_wp2
  go_ret
  (try simp only [← hW1])
  exact ⟨rfl, HB.out _⟩
end Go.Proofs.YtichhbnpdhfimaaDoor
