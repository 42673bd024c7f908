/- Layer 5: two nodes compared by the program. -/
import Derived.Test.YtcbmncafmofcpaaKz
namespace Go.Proofs.Ytcbmncafmofcpaa
open Go.RowKit Go.Proofs.Ws Go.Maps
set_option maxRecDepth 100000 in
set_option maxHeartbeats 8000000 in
theorem cmpNode_any (a b : Nd) (w : World) : Calls Try.prog 68 #[nv a, nv b] w fun e w' => e = .returned (.int .i64 (cmpN a b)) ∧ Below w.heap.size w w' := by
  have HB1 := Lib.hid (Box.made w a 44)
  have HB2 := Lib.hid (Box.made (w.alloc (.cells #[.int .i64 a.op, .int .i64 a.i, .int .i64 a.e, .int .i64 a.g, .int .i64 a.x, .int .i64 a.y] 44)) b 44)
  have HBL : Hid (Below w.heap.size w ((w.alloc (.cells #[.int .i64 a.op, .int .i64 a.i, .int .i64 a.e, .int .i64 a.g, .int .i64 a.x, .int .i64 a.y] 44)).alloc (.cells #[.int .i64 b.op, .int .i64 b.i, .int .i64 b.e, .int .i64 b.g, .int .i64 b.x, .int .i64 b.y] 44))) := Lib.hid (((Below.refl _ w).alloc (Nat.le_refl _) _).alloc (by simp) _)
  have hb3 := HB1.out.keep (W' := ((w.alloc (.cells #[.int .i64 a.op, .int .i64 a.i, .int .i64 a.e, .int .i64 a.g, .int .i64 a.x, .int .i64 a.y] 44)).alloc (.cells #[.int .i64 b.op, .int .i64 b.i, .int .i64 b.e, .int .i64 b.g, .int .i64 b.x, .int .i64 b.y] 44))) (Below.heap_alloc _ _ _ (by simp))
  have hb4 := HB2.out
  have hs1 : (w.alloc (.cells #[.int .i64 a.op, .int .i64 a.i, .int .i64 a.e, .int .i64 a.g, .int .i64 a.x, .int .i64 a.y] 44)).heap.size = w.heap.size + 1 := by simp
  rw [hs1] at hb4
  obtain ⟨x0, x1, x2, x3, x4, x5, _⟩ := hb3
  obtain ⟨y0, y1, y2, y3, y4, y5, _⟩ := hb4
  have HC := Lib.hid (fun p q W => cmpInt_any p q W)
  have HO : Hid (∀ (W : World) (p0 p1 p2 p3 p4 p5 : Int), Calls Try.prog 96 #[.slice (some ⟨W.heap.size, 0, none⟩) 6 6] (W.alloc (.cells #[.int .i64 p0, .int .i64 p1, .int .i64 p2, .int .i64 p3, .int .i64 p4, .int .i64 p5] 3)).drew fun e w' => e = .returned (.int .i64 (firstNZ [p0, p1, p2, p3, p4, p5])) ∧ (W.alloc (.cells #[.int .i64 p0, .int .i64 p1, .int .i64 p2, .int .i64 p3, .int .i64 p4, .int .i64 p5] 3)).drew = w') := Lib.hid (fun W p0 p1 p2 p3 p4 p5 => by
    refine or_any [p0, p1, p2, p3, p4, p5] _ 6 6 _ ⟨rfl, fun _ => ⟨_, rfl, by simp, fun j u hj => ?_⟩⟩ (by decide)
    have hh := heap_alloc_new W (.cells #[.int .i64 p0, .int .i64 p1, .int .i64 p2, .int .i64 p3, .int .i64 p4, .int .i64 p5] 3)
    rw [addr_zero]
    show (W.alloc _).cell? _ = _
    rw [Lib.cell_of_heap hh, ← hj]
    simp [is])
  unfold cmpN nv
  clear HB1 HB2 hs1
  go_enter Try.func68, Try.ntmps68
  go_wp2_with fail
  generalize ((w.alloc (.cells #[.int .i64 a.op, .int .i64 a.i, .int .i64 a.e, .int .i64 a.g, .int .i64 a.x, .int .i64 a.y] 44)).alloc (.cells #[.int .i64 b.op, .int .i64 b.i, .int .i64 b.e, .int .i64 b.g, .int .i64 b.x, .int .i64 b.y] 44)) = w1 at *
  go_region_held3 (fun W => (W.cell? ⟨w.heap.size, 0, none⟩ = some (.int .i64 a.op) ∧ W.cell? ⟨w.heap.size, 1, none⟩ = some (.int .i64 a.i) ∧ W.cell? ⟨w.heap.size, 2, none⟩ = some (.int .i64 a.e) ∧ W.cell? ⟨w.heap.size, 3, none⟩ = some (.int .i64 a.g) ∧ W.cell? ⟨w.heap.size, 4, none⟩ = some (.int .i64 a.x) ∧ W.cell? ⟨w.heap.size, 5, none⟩ = some (.int .i64 a.y) ∧
      W.cell? ⟨w.heap.size + 1, 0, none⟩ = some (.int .i64 b.op) ∧ W.cell? ⟨w.heap.size + 1, 1, none⟩ = some (.int .i64 b.i) ∧ W.cell? ⟨w.heap.size + 1, 2, none⟩ = some (.int .i64 b.e) ∧ W.cell? ⟨w.heap.size + 1, 3, none⟩ = some (.int .i64 b.g) ∧ W.cell? ⟨w.heap.size + 1, 4, none⟩ = some (.int .i64 b.x) ∧ W.cell? ⟨w.heap.size + 1, 5, none⟩ = some (.int .i64 b.y)))
    (first | assumption | go_keep)
    (first
      | (go_at_call 66; refine (HC.out _ _ _).mono ?_; rintro e W' ⟨rfl, rfl⟩)
      | (go_at_call 96; refine (HO.out _ _ _ _ _ _ _).mono ?_; rintro e W' ⟨rfl, rfl⟩))
  all_goals go_wp2
  all_goals go_ret
  all_goals exact ⟨rfl, (HBL.out.alloc HBL.out.size _).drew⟩
end Go.Proofs.Ytcbmncafmofcpaa
