/- Layer 4: numbers out of range, and equality of signatures, by the reference. -/
import Derived.Test.YtichhbnpdhfimaaDoorFb
namespace Go.Proofs.YtichhbnpdhfimaaDoor
open Go.RowKit Go.Proofs.Ws
set_option maxRecDepth 100000 in
set_option maxHeartbeats 4000000 in
theorem pRefDefault_bad (x0 x1 x2 : Int) (w : World) (h : ¬ ((0 ≤ x0 ∧ x0 ≤ 4) ∧ (0 ≤ x1 ∧ x1 ≤ 8) ∧ 0 ≤ x2 ∧ x2 ≤ 8)) :
    Calls Tryd.prog 34 #[.int .i64 x0, .int .i64 x1, .int .i64 x2] w fun e w' => e = .returned (.tuple #[.agg #[.slice none 0 0, .slice none 0 0, .slice none 0 0], .int .i64 2]) ∧ Below w.heap.size w w' := by
  have HZ := Lib.hid (heap_alloc_new w (.cells #[.slice none 0 0, .slice none 0 0, .slice none 0 0] 39))
  have HZB : Hid (Below w.heap.size w (w.alloc (.cells #[.slice none 0 0, .slice none 0 0, .slice none 0 0] 39))) := Lib.hid ((Below.refl _ w).alloc (Nat.le_refl _) _)
  by_cases t0 : x0 < 0
  · have d0 : decide (x0 < 0) = true := decide_eq_true t0
    clear h t0
    go_enter Tryd.func34, Tryd.ntmps34
    go_wp2
    (try simp only [Exit.inBlock, Exit.then])
    refine bodyPost_ret (ret_cell_row rfl _ _ w.heap.size _ _ _ _ rfl HZ.out Tryd.underlying39 rfl (by kernel_rfl)) rfl ⟨rfl, HZB.out⟩
  · have d0 : decide (x0 < 0) = false := decide_eq_false t0
    by_cases t1 : 4 < x0
    · have d1 : decide (4 < x0) = true := decide_eq_true t1
      clear h t0 t1
      go_enter Tryd.func34, Tryd.ntmps34
      go_wp2
      (try simp only [Exit.inBlock, Exit.then])
      refine bodyPost_ret (ret_cell_row rfl _ _ w.heap.size _ _ _ _ rfl HZ.out Tryd.underlying39 rfl (by kernel_rfl)) rfl ⟨rfl, HZB.out⟩
    · have d1 : decide (4 < x0) = false := decide_eq_false t1
      by_cases t2 : x1 < 0
      · have d2 : decide (x1 < 0) = true := decide_eq_true t2
        clear h t0 t1 t2
        go_enter Tryd.func34, Tryd.ntmps34
        go_wp2
        (try simp only [Exit.inBlock, Exit.then])
        refine bodyPost_ret (ret_cell_row rfl _ _ w.heap.size _ _ _ _ rfl HZ.out Tryd.underlying39 rfl (by kernel_rfl)) rfl ⟨rfl, HZB.out⟩
      · have d2 : decide (x1 < 0) = false := decide_eq_false t2
        by_cases t3 : 8 < x1
        · have d3 : decide (8 < x1) = true := decide_eq_true t3
          clear h t0 t1 t2 t3
          go_enter Tryd.func34, Tryd.ntmps34
          go_wp2
          (try simp only [Exit.inBlock, Exit.then])
          refine bodyPost_ret (ret_cell_row rfl _ _ w.heap.size _ _ _ _ rfl HZ.out Tryd.underlying39 rfl (by kernel_rfl)) rfl ⟨rfl, HZB.out⟩
        · have d3 : decide (8 < x1) = false := decide_eq_false t3
          by_cases t4 : x2 < 0
          · have d4 : decide (x2 < 0) = true := decide_eq_true t4
            clear h t0 t1 t2 t3 t4
            go_enter Tryd.func34, Tryd.ntmps34
            go_wp2
            (try simp only [Exit.inBlock, Exit.then])
            refine bodyPost_ret (ret_cell_row rfl _ _ w.heap.size _ _ _ _ rfl HZ.out Tryd.underlying39 rfl (by kernel_rfl)) rfl ⟨rfl, HZB.out⟩
          · have d4 : decide (x2 < 0) = false := decide_eq_false t4
            by_cases t5 : 8 < x2
            · have d5 : decide (8 < x2) = true := decide_eq_true t5
              clear h t0 t1 t2 t3 t4 t5
              go_enter Tryd.func34, Tryd.ntmps34
              go_wp2
              (try simp only [Exit.inBlock, Exit.then])
              refine bodyPost_ret (ret_cell_row rfl _ _ w.heap.size _ _ _ _ rfl HZ.out Tryd.underlying39 rfl (by kernel_rfl)) rfl ⟨rfl, HZB.out⟩
            · have d5 : decide (8 < x2) = false := decide_eq_false t5
              exact absurd ⟨⟨by omega, by omega⟩, ⟨by omega, by omega⟩, by omega, by omega⟩ h
set_option maxRecDepth 100000 in
set_option maxHeartbeats 2000000 in
theorem pSameList_any (l : List ByteArray) (A A' : Option Addr) (n c c' B : Nat) (w : World) (hR : Reads w B 1 A n (ss l)) (hR' : Reads w B 1 A' n (ss l)) (hm : n ≤ 20) :
    Calls Tryd.prog 68 #[.slice A n c, .slice A' n c'] w fun e w' => e = .returned (.bool true) ∧ ∃ q, w' = w.drewN q := by
  go_enter Tryd.func68, Tryd.ntmps68
  go_wp2
  go_loopw [5] (fun i wr => ∃ k q : Nat, k ≤ n ∧ i = .int .i64 k ∧ wr = w.drewN q) (fun i _ => n - (intOf i).toNat)
  case atStart => exact ⟨0, 0, Nat.zero_le _, rfl, rfl⟩
  case round =>
    obtain ⟨k, q, hk, rfl, rfl⟩ := hrel
    by_cases hlt : k < n
    · obtain ⟨ad, rfl, _, hc⟩ := hR.str_at hlt
      obtain ⟨ad', rfl, _, hc'⟩ := hR'.str_at hlt
      generalize l.getD k ByteArray.empty = x at *
      have hx : (x.toList == x.toList) = true := by simp
      go_wp2
      go_quiet (fail)
      go_wp2
      go_roundw
      case rel => exact ⟨k + 1, q + nq, by omega, by go_num, by first | rfl | rw [World.drewN_drewN]⟩
      case measure => simp [intOf]; omega
    · have hkn : n = k := by omega
      subst hkn
      go_wp2
      go_ret
      exact ⟨rfl, ⟨q, rfl⟩⟩
end Go.Proofs.YtichhbnpdhfimaaDoor
