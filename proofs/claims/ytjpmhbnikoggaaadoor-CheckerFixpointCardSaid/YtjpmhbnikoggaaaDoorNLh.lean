/- Layer 17: whether a node has a meaning, by the program. -/
import Derived.Test.YtjpmhbnikoggaaaDoorNLg
namespace Go.Proofs.YtjpmhbnikoggaaaDoor
open Go.RowKit Go.Proofs.Ws
set_option maxRecDepth 100000
theorem grp_shr {g : Int} {k : Nat} (h : 0 ≤ g) : (g / 2 ^ k == 0) = decide (g < 2 ^ k) := by
  have hp : (0 : Int) < 2 ^ k := Int.pow_pos (by decide)
  rw [Bool.eq_iff_iff, beq_iff_eq, decide_eq_true_eq]
  constructor
  · intro e
    have h1 := Int.emod_add_mul_ediv g (2 ^ k)
    have h2 := Int.emod_lt_of_pos g hp
    rw [e] at h1
    omega
  · intro e
    exact Int.ediv_eq_zero_of_lt h e
section
variable (m : Mo) (A1 : Option Addr) (c1 : Nat) (A2 : Option Addr) (c2 : Nat) (sets : List Nat) (has : List Bool) (g : Nat) (w : World) (hT : TS w g m A1 c1 A2 c2 sets has)
include hT
set_option maxHeartbeats 8000000 in
theorem pHas1_any (i e gi nx ny : Int) : Calls Tryd.prog 66 #[.pointer (some ⟨g, 0, none⟩), .agg #[.int .i64 1, .int .i64 i, .int .i64 e, .int .i64 gi, .int .i64 nx, .int .i64 ny]] w fun e' w' => e' = .returned (.bool (true)) ∧ Below w.heap.size w w' := by
  have hg := hT.lt
  have HB : Hid (Below w.heap.size w (w.alloc (.cells #[.int .i64 1, .int .i64 i, .int .i64 e, .int .i64 gi, .int .i64 nx, .int .i64 ny] 62))) := Lib.hid ((Below.refl _ w).alloc (Nat.le_refl _) _)
  have hT2 := hT.below HB.out
  obtain ⟨_, t1, t2, _, _, ⟨A4, c4, t5, hr⟩⟩ := hT2.cells
  generalize has.length = hl at *
  generalize m.val.length = vl at *
  generalize m.rel.length = rl at *
  clear hT hT2 hr
  go_enter Tryd.func66, Tryd.ntmps66
  go_wp2
  go_ret
  exact ⟨rfl, HB.out⟩
set_option maxHeartbeats 8000000 in
theorem pHas2_any (i e gi nx ny : Int) : Calls Tryd.prog 66 #[.pointer (some ⟨g, 0, none⟩), .agg #[.int .i64 2, .int .i64 i, .int .i64 e, .int .i64 gi, .int .i64 nx, .int .i64 ny]] w fun e' w' => e' = .returned (.bool (true)) ∧ Below w.heap.size w w' := by
  have hg := hT.lt
  have HB : Hid (Below w.heap.size w (w.alloc (.cells #[.int .i64 2, .int .i64 i, .int .i64 e, .int .i64 gi, .int .i64 nx, .int .i64 ny] 62))) := Lib.hid ((Below.refl _ w).alloc (Nat.le_refl _) _)
  have hT2 := hT.below HB.out
  obtain ⟨_, t1, t2, _, _, ⟨A4, c4, t5, hr⟩⟩ := hT2.cells
  generalize has.length = hl at *
  generalize m.val.length = vl at *
  generalize m.rel.length = rl at *
  clear hT hT2 hr
  go_enter Tryd.func66, Tryd.ntmps66
  go_wp2
  go_ret
  exact ⟨rfl, HB.out⟩
set_option maxHeartbeats 8000000 in
theorem pHas3_any (i e gi nx ny : Int) : Calls Tryd.prog 66 #[.pointer (some ⟨g, 0, none⟩), .agg #[.int .i64 3, .int .i64 i, .int .i64 e, .int .i64 gi, .int .i64 nx, .int .i64 ny]] w fun e' w' => e' = .returned (.bool (decide (i < (m.val.length : Int)))) ∧ Below w.heap.size w w' := by
  have hg := hT.lt
  have HB : Hid (Below w.heap.size w (w.alloc (.cells #[.int .i64 3, .int .i64 i, .int .i64 e, .int .i64 gi, .int .i64 nx, .int .i64 ny] 62))) := Lib.hid ((Below.refl _ w).alloc (Nat.le_refl _) _)
  have hT2 := hT.below HB.out
  obtain ⟨_, t1, t2, _, _, ⟨A4, c4, t5, hr⟩⟩ := hT2.cells
  generalize has.length = hl at *
  generalize m.val.length = vl at *
  generalize m.rel.length = rl at *
  clear hT hT2 hr
  go_enter Tryd.func66, Tryd.ntmps66
  go_wp2
  go_quiet (fail)
  go_wp2
  go_ret
  exact ⟨rfl, below_drewN HB.out _⟩
set_option maxHeartbeats 8000000 in
theorem pHas4_any (i e gi nx ny : Int) (hx0 : 0 ≤ nx ∧ nx < (has.length : Int)) : Calls Tryd.prog 66 #[.pointer (some ⟨g, 0, none⟩), .agg #[.int .i64 4, .int .i64 i, .int .i64 e, .int .i64 gi, .int .i64 nx, .int .i64 ny]] w fun e' w' => e' = .returned (.bool (has.getD nx.toNat false)) ∧ Below w.heap.size w w' := by
  have hg := hT.lt
  have HB : Hid (Below w.heap.size w (w.alloc (.cells #[.int .i64 4, .int .i64 i, .int .i64 e, .int .i64 gi, .int .i64 nx, .int .i64 ny] 62))) := Lib.hid ((Below.refl _ w).alloc (Nat.le_refl _) _)
  have hT2 := hT.below HB.out
  obtain ⟨_, t1, t2, _, _, ⟨A4, c4, t5, hr⟩⟩ := hT2.cells
  obtain ⟨x, rfl⟩ : ∃ x : Nat, nx = (x : Int) := ⟨nx.toNat, by omega⟩
  obtain ⟨ad, rfl, _, hx⟩ := hr.bool_k (k := x) (by omega)
  rw [show ((x : Int)).toNat = x from rfl]
  generalize has.getD x false = bx at *
  have hlen : (x : Int) < (has.length : Int) := by omega
  generalize has.length = hl at *
  generalize m.val.length = vl at *
  generalize m.rel.length = rl at *
  clear hT hT2 hr
  go_enter Tryd.func66, Tryd.ntmps66
  go_wp2
  go_quiet (fail)
  go_wp2
  go_ret
  exact ⟨rfl, below_drewN HB.out _⟩
set_option maxHeartbeats 8000000 in
theorem pHas5_any (i e gi nx ny : Int) (hx0 : 0 ≤ nx ∧ nx < (has.length : Int)) (hy0 : 0 ≤ ny ∧ ny < (has.length : Int)) : Calls Tryd.prog 66 #[.pointer (some ⟨g, 0, none⟩), .agg #[.int .i64 5, .int .i64 i, .int .i64 e, .int .i64 gi, .int .i64 nx, .int .i64 ny]] w fun e' w' => e' = .returned (.bool (has.getD nx.toNat false && has.getD ny.toNat false)) ∧ Below w.heap.size w w' := by
  have hg := hT.lt
  have HB : Hid (Below w.heap.size w (w.alloc (.cells #[.int .i64 5, .int .i64 i, .int .i64 e, .int .i64 gi, .int .i64 nx, .int .i64 ny] 62))) := Lib.hid ((Below.refl _ w).alloc (Nat.le_refl _) _)
  have hT2 := hT.below HB.out
  obtain ⟨_, t1, t2, _, _, ⟨A4, c4, t5, hr⟩⟩ := hT2.cells
  obtain ⟨x, rfl⟩ : ∃ x : Nat, nx = (x : Int) := ⟨nx.toNat, by omega⟩
  obtain ⟨ad, rfl, _, hx⟩ := hr.bool_k (k := x) (by omega)
  rw [show ((x : Int)).toNat = x from rfl]
  obtain ⟨y, rfl⟩ : ∃ y : Nat, ny = (y : Int) := ⟨ny.toNat, by omega⟩
  obtain ⟨ad2, e2, _, hy⟩ := hr.bool_k (k := y) (by omega)
  injection e2 with e2
  subst e2
  rw [show ((y : Int)).toNat = y from rfl]
  generalize has.getD x false = bx at *
  generalize has.getD y false = by_ at *
  have hlen : (x : Int) < (has.length : Int) := by omega
  have hlen2 : (y : Int) < (has.length : Int) := by omega
  generalize has.length = hl at *
  generalize m.val.length = vl at *
  generalize m.rel.length = rl at *
  clear hT hT2 hr
  cases bx
  case false =>
    go_enter Tryd.func66, Tryd.ntmps66
    go_wp2
    go_quiet (fail)
    go_wp2
    go_ret
    exact ⟨rfl, below_drewN HB.out _⟩
  case true =>
    go_enter Tryd.func66, Tryd.ntmps66
    go_wp2
    go_quiet (fail)
    go_wp2
    go_ret
    exact ⟨rfl, below_drewN HB.out _⟩
set_option maxHeartbeats 8000000 in
theorem pHas6_any (i e gi nx ny : Int) (hx0 : 0 ≤ nx ∧ nx < (has.length : Int)) (hy0 : 0 ≤ ny ∧ ny < (has.length : Int)) : Calls Tryd.prog 66 #[.pointer (some ⟨g, 0, none⟩), .agg #[.int .i64 6, .int .i64 i, .int .i64 e, .int .i64 gi, .int .i64 nx, .int .i64 ny]] w fun e' w' => e' = .returned (.bool (has.getD nx.toNat false && has.getD ny.toNat false)) ∧ Below w.heap.size w w' := by
  have hg := hT.lt
  have HB : Hid (Below w.heap.size w (w.alloc (.cells #[.int .i64 6, .int .i64 i, .int .i64 e, .int .i64 gi, .int .i64 nx, .int .i64 ny] 62))) := Lib.hid ((Below.refl _ w).alloc (Nat.le_refl _) _)
  have hT2 := hT.below HB.out
  obtain ⟨_, t1, t2, _, _, ⟨A4, c4, t5, hr⟩⟩ := hT2.cells
  obtain ⟨x, rfl⟩ : ∃ x : Nat, nx = (x : Int) := ⟨nx.toNat, by omega⟩
  obtain ⟨ad, rfl, _, hx⟩ := hr.bool_k (k := x) (by omega)
  rw [show ((x : Int)).toNat = x from rfl]
  obtain ⟨y, rfl⟩ : ∃ y : Nat, ny = (y : Int) := ⟨ny.toNat, by omega⟩
  obtain ⟨ad2, e2, _, hy⟩ := hr.bool_k (k := y) (by omega)
  injection e2 with e2
  subst e2
  rw [show ((y : Int)).toNat = y from rfl]
  generalize has.getD x false = bx at *
  generalize has.getD y false = by_ at *
  have hlen : (x : Int) < (has.length : Int) := by omega
  have hlen2 : (y : Int) < (has.length : Int) := by omega
  generalize has.length = hl at *
  generalize m.val.length = vl at *
  generalize m.rel.length = rl at *
  clear hT hT2 hr
  cases bx
  case false =>
    go_enter Tryd.func66, Tryd.ntmps66
    go_wp2
    go_quiet (fail)
    go_wp2
    go_ret
    exact ⟨rfl, below_drewN HB.out _⟩
  case true =>
    go_enter Tryd.func66, Tryd.ntmps66
    go_wp2
    go_quiet (fail)
    go_wp2
    go_ret
    exact ⟨rfl, below_drewN HB.out _⟩
set_option maxHeartbeats 8000000 in
theorem pHas7_any (i e gi nx ny : Int) (hx0 : 0 ≤ nx ∧ nx < (has.length : Int)) (hy0 : 0 ≤ ny ∧ ny < (has.length : Int)) : Calls Tryd.prog 66 #[.pointer (some ⟨g, 0, none⟩), .agg #[.int .i64 7, .int .i64 i, .int .i64 e, .int .i64 gi, .int .i64 nx, .int .i64 ny]] w fun e' w' => e' = .returned (.bool (has.getD nx.toNat false && has.getD ny.toNat false)) ∧ Below w.heap.size w w' := by
  have hg := hT.lt
  have HB : Hid (Below w.heap.size w (w.alloc (.cells #[.int .i64 7, .int .i64 i, .int .i64 e, .int .i64 gi, .int .i64 nx, .int .i64 ny] 62))) := Lib.hid ((Below.refl _ w).alloc (Nat.le_refl _) _)
  have hT2 := hT.below HB.out
  obtain ⟨_, t1, t2, _, _, ⟨A4, c4, t5, hr⟩⟩ := hT2.cells
  obtain ⟨x, rfl⟩ : ∃ x : Nat, nx = (x : Int) := ⟨nx.toNat, by omega⟩
  obtain ⟨ad, rfl, _, hx⟩ := hr.bool_k (k := x) (by omega)
  rw [show ((x : Int)).toNat = x from rfl]
  obtain ⟨y, rfl⟩ : ∃ y : Nat, ny = (y : Int) := ⟨ny.toNat, by omega⟩
  obtain ⟨ad2, e2, _, hy⟩ := hr.bool_k (k := y) (by omega)
  injection e2 with e2
  subst e2
  rw [show ((y : Int)).toNat = y from rfl]
  generalize has.getD x false = bx at *
  generalize has.getD y false = by_ at *
  have hlen : (x : Int) < (has.length : Int) := by omega
  have hlen2 : (y : Int) < (has.length : Int) := by omega
  generalize has.length = hl at *
  generalize m.val.length = vl at *
  generalize m.rel.length = rl at *
  clear hT hT2 hr
  cases bx
  case false =>
    go_enter Tryd.func66, Tryd.ntmps66
    go_wp2
    go_quiet (fail)
    go_wp2
    go_ret
    exact ⟨rfl, below_drewN HB.out _⟩
  case true =>
    go_enter Tryd.func66, Tryd.ntmps66
    go_wp2
    go_quiet (fail)
    go_wp2
    go_ret
    exact ⟨rfl, below_drewN HB.out _⟩
set_option maxHeartbeats 8000000 in
theorem pHas8_any (i e gi nx ny : Int) (hx0 : 0 ≤ nx ∧ nx < (has.length : Int)) (hy0 : 0 ≤ ny ∧ ny < (has.length : Int)) : Calls Tryd.prog 66 #[.pointer (some ⟨g, 0, none⟩), .agg #[.int .i64 8, .int .i64 i, .int .i64 e, .int .i64 gi, .int .i64 nx, .int .i64 ny]] w fun e' w' => e' = .returned (.bool (has.getD nx.toNat false && has.getD ny.toNat false)) ∧ Below w.heap.size w w' := by
  have hg := hT.lt
  have HB : Hid (Below w.heap.size w (w.alloc (.cells #[.int .i64 8, .int .i64 i, .int .i64 e, .int .i64 gi, .int .i64 nx, .int .i64 ny] 62))) := Lib.hid ((Below.refl _ w).alloc (Nat.le_refl _) _)
  have hT2 := hT.below HB.out
  obtain ⟨_, t1, t2, _, _, ⟨A4, c4, t5, hr⟩⟩ := hT2.cells
  obtain ⟨x, rfl⟩ : ∃ x : Nat, nx = (x : Int) := ⟨nx.toNat, by omega⟩
  obtain ⟨ad, rfl, _, hx⟩ := hr.bool_k (k := x) (by omega)
  rw [show ((x : Int)).toNat = x from rfl]
  obtain ⟨y, rfl⟩ : ∃ y : Nat, ny = (y : Int) := ⟨ny.toNat, by omega⟩
  obtain ⟨ad2, e2, _, hy⟩ := hr.bool_k (k := y) (by omega)
  injection e2 with e2
  subst e2
  rw [show ((y : Int)).toNat = y from rfl]
  generalize has.getD x false = bx at *
  generalize has.getD y false = by_ at *
  have hlen : (x : Int) < (has.length : Int) := by omega
  have hlen2 : (y : Int) < (has.length : Int) := by omega
  generalize has.length = hl at *
  generalize m.val.length = vl at *
  generalize m.rel.length = rl at *
  clear hT hT2 hr
  cases bx
  case false =>
    go_enter Tryd.func66, Tryd.ntmps66
    go_wp2
    go_quiet (fail)
    go_wp2
    go_ret
    exact ⟨rfl, below_drewN HB.out _⟩
  case true =>
    go_enter Tryd.func66, Tryd.ntmps66
    go_wp2
    go_quiet (fail)
    go_wp2
    go_ret
    exact ⟨rfl, below_drewN HB.out _⟩
set_option maxHeartbeats 8000000 in
theorem pHas9_any (i e gi nx ny : Int) (hx0 : 0 ≤ nx ∧ nx < (has.length : Int)) : Calls Tryd.prog 66 #[.pointer (some ⟨g, 0, none⟩), .agg #[.int .i64 9, .int .i64 i, .int .i64 e, .int .i64 gi, .int .i64 nx, .int .i64 ny]] w fun e' w' => e' = .returned (.bool (decide (i < (m.rel.length : Int)) && has.getD nx.toNat false)) ∧ Below w.heap.size w w' := by
  have hg := hT.lt
  have HB : Hid (Below w.heap.size w (w.alloc (.cells #[.int .i64 9, .int .i64 i, .int .i64 e, .int .i64 gi, .int .i64 nx, .int .i64 ny] 62))) := Lib.hid ((Below.refl _ w).alloc (Nat.le_refl _) _)
  have hT2 := hT.below HB.out
  obtain ⟨_, t1, t2, _, _, ⟨A4, c4, t5, hr⟩⟩ := hT2.cells
  obtain ⟨x, rfl⟩ : ∃ x : Nat, nx = (x : Int) := ⟨nx.toNat, by omega⟩
  obtain ⟨ad, rfl, _, hx⟩ := hr.bool_k (k := x) (by omega)
  rw [show ((x : Int)).toNat = x from rfl]
  generalize has.getD x false = bx at *
  have hlen : (x : Int) < (has.length : Int) := by omega
  generalize has.length = hl at *
  generalize m.val.length = vl at *
  generalize m.rel.length = rl at *
  clear hT hT2 hr
  cases hd : decide (i < (rl : Int))
  case false =>
    go_enter Tryd.func66, Tryd.ntmps66
    go_wp2
    go_quiet (fail)
    go_wp2
    go_ret
    exact ⟨rfl, below_drewN HB.out _⟩
  case true =>
    go_enter Tryd.func66, Tryd.ntmps66
    go_wp2
    go_quiet (fail)
    go_wp2
    go_ret
    exact ⟨rfl, below_drewN HB.out _⟩
set_option maxHeartbeats 8000000 in
theorem pHas10_any (i e gi nx ny : Int) (hx0 : 0 ≤ nx ∧ nx < (has.length : Int)) : Calls Tryd.prog 66 #[.pointer (some ⟨g, 0, none⟩), .agg #[.int .i64 10, .int .i64 i, .int .i64 e, .int .i64 gi, .int .i64 nx, .int .i64 ny]] w fun e' w' => e' = .returned (.bool (decide (i < (m.rel.length : Int)) && has.getD nx.toNat false)) ∧ Below w.heap.size w w' := by
  have hg := hT.lt
  have HB : Hid (Below w.heap.size w (w.alloc (.cells #[.int .i64 10, .int .i64 i, .int .i64 e, .int .i64 gi, .int .i64 nx, .int .i64 ny] 62))) := Lib.hid ((Below.refl _ w).alloc (Nat.le_refl _) _)
  have hT2 := hT.below HB.out
  obtain ⟨_, t1, t2, _, _, ⟨A4, c4, t5, hr⟩⟩ := hT2.cells
  obtain ⟨x, rfl⟩ : ∃ x : Nat, nx = (x : Int) := ⟨nx.toNat, by omega⟩
  obtain ⟨ad, rfl, _, hx⟩ := hr.bool_k (k := x) (by omega)
  rw [show ((x : Int)).toNat = x from rfl]
  generalize has.getD x false = bx at *
  have hlen : (x : Int) < (has.length : Int) := by omega
  generalize has.length = hl at *
  generalize m.val.length = vl at *
  generalize m.rel.length = rl at *
  clear hT hT2 hr
  cases hd : decide (i < (rl : Int))
  case false =>
    go_enter Tryd.func66, Tryd.ntmps66
    go_wp2
    go_quiet (fail)
    go_wp2
    go_ret
    exact ⟨rfl, below_drewN HB.out _⟩
  case true =>
    go_enter Tryd.func66, Tryd.ntmps66
    go_wp2
    go_quiet (fail)
    go_wp2
    go_ret
    exact ⟨rfl, below_drewN HB.out _⟩
set_option maxHeartbeats 8000000 in
theorem pHas11_any (i e gi nx ny : Int) (hg0 : 0 ≤ gi) (hnr : m.rel.length ≤ 64) (hx0 : 0 ≤ nx ∧ nx < (has.length : Int)) : Calls Tryd.prog 66 #[.pointer (some ⟨g, 0, none⟩), .agg #[.int .i64 11, .int .i64 i, .int .i64 e, .int .i64 gi, .int .i64 nx, .int .i64 ny]] w fun e' w' => e' = .returned (.bool (decide (gi < 2 ^ m.rel.length) && has.getD nx.toNat false)) ∧ Below w.heap.size w w' := by
  have hg := hT.lt
  have HB : Hid (Below w.heap.size w (w.alloc (.cells #[.int .i64 11, .int .i64 i, .int .i64 e, .int .i64 gi, .int .i64 nx, .int .i64 ny] 62))) := Lib.hid ((Below.refl _ w).alloc (Nat.le_refl _) _)
  have hT2 := hT.below HB.out
  obtain ⟨_, t1, t2, _, _, ⟨A4, c4, t5, hr⟩⟩ := hT2.cells
  obtain ⟨x, rfl⟩ : ∃ x : Nat, nx = (x : Int) := ⟨nx.toNat, by omega⟩
  obtain ⟨ad, rfl, _, hx⟩ := hr.bool_k (k := x) (by omega)
  rw [show ((x : Int)).toNat = x from rfl]
  have hsh : (gi / 2 ^ min m.rel.length 64 == 0) = decide (gi < 2 ^ m.rel.length) := by rw [Nat.min_eq_left hnr]; exact grp_shr hg0
  clear hnr
  generalize has.getD x false = bx at *
  have hlen : (x : Int) < (has.length : Int) := by omega
  generalize has.length = hl at *
  generalize m.val.length = vl at *
  generalize m.rel.length = rl at *
  clear hT hT2 hr
  cases hd : decide (gi < 2 ^ rl)
  case false =>
    rw [hd] at hsh
    go_enter Tryd.func66, Tryd.ntmps66
    go_wp2
    go_quiet (fail)
    go_wp2
    go_ret
    exact ⟨rfl, below_drewN HB.out _⟩
  case true =>
    rw [hd] at hsh
    go_enter Tryd.func66, Tryd.ntmps66
    go_wp2
    go_quiet (fail)
    go_wp2
    go_ret
    exact ⟨rfl, below_drewN HB.out _⟩
set_option maxHeartbeats 8000000 in
theorem pHas12_any (i e gi nx ny : Int) (hg0 : 0 ≤ gi) (hnr : m.rel.length ≤ 64) (hx0 : 0 ≤ nx ∧ nx < (has.length : Int)) : Calls Tryd.prog 66 #[.pointer (some ⟨g, 0, none⟩), .agg #[.int .i64 12, .int .i64 i, .int .i64 e, .int .i64 gi, .int .i64 nx, .int .i64 ny]] w fun e' w' => e' = .returned (.bool (decide (gi < 2 ^ m.rel.length) && has.getD nx.toNat false)) ∧ Below w.heap.size w w' := by
  have hg := hT.lt
  have HB : Hid (Below w.heap.size w (w.alloc (.cells #[.int .i64 12, .int .i64 i, .int .i64 e, .int .i64 gi, .int .i64 nx, .int .i64 ny] 62))) := Lib.hid ((Below.refl _ w).alloc (Nat.le_refl _) _)
  have hT2 := hT.below HB.out
  obtain ⟨_, t1, t2, _, _, ⟨A4, c4, t5, hr⟩⟩ := hT2.cells
  obtain ⟨x, rfl⟩ : ∃ x : Nat, nx = (x : Int) := ⟨nx.toNat, by omega⟩
  obtain ⟨ad, rfl, _, hx⟩ := hr.bool_k (k := x) (by omega)
  rw [show ((x : Int)).toNat = x from rfl]
  have hsh : (gi / 2 ^ min m.rel.length 64 == 0) = decide (gi < 2 ^ m.rel.length) := by rw [Nat.min_eq_left hnr]; exact grp_shr hg0
  clear hnr
  generalize has.getD x false = bx at *
  have hlen : (x : Int) < (has.length : Int) := by omega
  generalize has.length = hl at *
  generalize m.val.length = vl at *
  generalize m.rel.length = rl at *
  clear hT hT2 hr
  cases hd : decide (gi < 2 ^ rl)
  case false =>
    rw [hd] at hsh
    go_enter Tryd.func66, Tryd.ntmps66
    go_wp2
    go_quiet (fail)
    go_wp2
    go_ret
    exact ⟨rfl, below_drewN HB.out _⟩
  case true =>
    rw [hd] at hsh
    go_enter Tryd.func66, Tryd.ntmps66
    go_wp2
    go_quiet (fail)
    go_wp2
    go_ret
    exact ⟨rfl, below_drewN HB.out _⟩
set_option maxHeartbeats 8000000 in
theorem pHas13_any (i e gi nx ny : Int) (hg0 : 0 ≤ gi) (hnr : m.rel.length ≤ 64) (hx0 : 0 ≤ nx ∧ nx < (has.length : Int)) (hy0 : 0 ≤ ny ∧ ny < (has.length : Int)) : Calls Tryd.prog 66 #[.pointer (some ⟨g, 0, none⟩), .agg #[.int .i64 13, .int .i64 i, .int .i64 e, .int .i64 gi, .int .i64 nx, .int .i64 ny]] w fun e' w' => e' = .returned (.bool (decide (gi < 2 ^ m.rel.length) && (has.getD nx.toNat false && has.getD ny.toNat false))) ∧ Below w.heap.size w w' := by
  have hg := hT.lt
  have HB : Hid (Below w.heap.size w (w.alloc (.cells #[.int .i64 13, .int .i64 i, .int .i64 e, .int .i64 gi, .int .i64 nx, .int .i64 ny] 62))) := Lib.hid ((Below.refl _ w).alloc (Nat.le_refl _) _)
  have hT2 := hT.below HB.out
  obtain ⟨_, t1, t2, _, _, ⟨A4, c4, t5, hr⟩⟩ := hT2.cells
  obtain ⟨x, rfl⟩ : ∃ x : Nat, nx = (x : Int) := ⟨nx.toNat, by omega⟩
  obtain ⟨ad, rfl, _, hx⟩ := hr.bool_k (k := x) (by omega)
  rw [show ((x : Int)).toNat = x from rfl]
  obtain ⟨y, rfl⟩ : ∃ y : Nat, ny = (y : Int) := ⟨ny.toNat, by omega⟩
  obtain ⟨ad2, e2, _, hy⟩ := hr.bool_k (k := y) (by omega)
  injection e2 with e2
  subst e2
  rw [show ((y : Int)).toNat = y from rfl]
  have hsh : (gi / 2 ^ min m.rel.length 64 == 0) = decide (gi < 2 ^ m.rel.length) := by rw [Nat.min_eq_left hnr]; exact grp_shr hg0
  clear hnr
  generalize has.getD x false = bx at *
  generalize has.getD y false = by_ at *
  have hlen : (x : Int) < (has.length : Int) := by omega
  have hlen2 : (y : Int) < (has.length : Int) := by omega
  generalize has.length = hl at *
  generalize m.val.length = vl at *
  generalize m.rel.length = rl at *
  clear hT hT2 hr
  cases hd : decide (gi < 2 ^ rl)
  case false =>
    rw [hd] at hsh
    go_enter Tryd.func66, Tryd.ntmps66
    go_wp2
    go_quiet (fail)
    go_wp2
    go_ret
    exact ⟨rfl, below_drewN HB.out _⟩
  case true =>
    rw [hd] at hsh
    cases bx
    case false =>
      go_enter Tryd.func66, Tryd.ntmps66
      go_wp2
      go_quiet (fail)
      go_wp2
      go_ret
      exact ⟨rfl, below_drewN HB.out _⟩
    case true =>
      go_enter Tryd.func66, Tryd.ntmps66
      go_wp2
      go_quiet (fail)
      go_wp2
      go_ret
      exact ⟨rfl, below_drewN HB.out _⟩
set_option maxHeartbeats 8000000 in
theorem pHasop_any (i e gi nx ny : Int) (op : Int) (ho : 14 ≤ op) : Calls Tryd.prog 66 #[.pointer (some ⟨g, 0, none⟩), .agg #[.int .i64 op, .int .i64 i, .int .i64 e, .int .i64 gi, .int .i64 nx, .int .i64 ny]] w fun e' w' => e' = .returned (.bool (false)) ∧ Below w.heap.size w w' := by
  have hg := hT.lt
  have HB : Hid (Below w.heap.size w (w.alloc (.cells #[.int .i64 op, .int .i64 i, .int .i64 e, .int .i64 gi, .int .i64 nx, .int .i64 ny] 62))) := Lib.hid ((Below.refl _ w).alloc (Nat.le_refl _) _)
  have hT2 := hT.below HB.out
  obtain ⟨_, t1, t2, _, _, ⟨A4, c4, t5, hr⟩⟩ := hT2.cells
  generalize has.length = hl at *
  generalize m.val.length = vl at *
  generalize m.rel.length = rl at *
  clear hT hT2 hr
  have b1 : (op == 1) = false := by rw [beq_eq_false_iff_ne]; omega
  have b2 : (op == 2) = false := by rw [beq_eq_false_iff_ne]; omega
  have b3 : (op == 3) = false := by rw [beq_eq_false_iff_ne]; omega
  have b4 : (op == 4) = false := by rw [beq_eq_false_iff_ne]; omega
  have b5 : (op == 5) = false := by rw [beq_eq_false_iff_ne]; omega
  have b6 : (op == 6) = false := by rw [beq_eq_false_iff_ne]; omega
  have b7 : (op == 7) = false := by rw [beq_eq_false_iff_ne]; omega
  have b8 : (op == 8) = false := by rw [beq_eq_false_iff_ne]; omega
  have b9 : (op == 9) = false := by rw [beq_eq_false_iff_ne]; omega
  have b10 : (op == 10) = false := by rw [beq_eq_false_iff_ne]; omega
  have b11 : (op == 11) = false := by rw [beq_eq_false_iff_ne]; omega
  have b12 : (op == 12) = false := by rw [beq_eq_false_iff_ne]; omega
  have b13 : (op == 13) = false := by rw [beq_eq_false_iff_ne]; omega
  clear ho
  go_enter Tryd.func66, Tryd.ntmps66
  go_wp2
  go_ret
  exact ⟨rfl, HB.out⟩
end
theorem pHas_anyC (m : Mo) (A1 : Option Addr) (c1 : Nat) (A2 : Option Addr) (c2 : Nat) (sets : List Nat) (has : List Bool) (g : Nat) (w : World) (hT : TS w g m A1 c1 A2 c2 sets has) (n : Nd) (hf : fldOk n) (ho : opsOk n has.length) (hnr : m.rel.length ≤ 64) :
    Calls Tryd.prog 66 #[.pointer (some ⟨g, 0, none⟩), .agg #[.int .i64 n.op, .int .i64 n.i, .int .i64 n.e, .int .i64 n.g, .int .i64 n.x, .int .i64 n.y]] w fun e' w' => e' = .returned (.bool (hasN m.rel.length m.val.length n (has.getD n.x.toNat false) (has.getD n.y.toNat false))) ∧ Below w.heap.size w w' := by
  obtain ⟨op, i, e, gi, nx, ny⟩ := n
  obtain ⟨hk, _, hr⟩ := hf
  unfold rangeOk at hr
  simp only [Bool.and_eq_true, Bool.or_eq_true, decide_eq_true_eq, beq_iff_eq] at hr
  obtain ⟨⟨r1, r2⟩, r3⟩ := hr
  unfold opsOk at ho
  dsimp only at hk r1 r2 r3 ho ⊢
  unfold known at hk
  simp only [Bool.and_eq_true, decide_eq_true_eq] at hk
  have hops : op = 1 ∨ op = 2 ∨ op = 3 ∨ op = 4 ∨ op = 5 ∨ op = 6 ∨ op = 7 ∨ op = 8 ∨ op = 9 ∨ op = 10 ∨ op = 11 ∨ op = 12 ∨ op = 13 ∨ (14 ≤ op ∧ op ≤ 21) := by omega
  rcases hops with rfl | rfl | rfl | rfl | rfl | rfl | rfl | rfl | rfl | rfl | rfl | rfl | rfl | h
  · exact pHas1_any m A1 c1 A2 c2 sets has g w hT i e gi nx ny
  · exact pHas2_any m A1 c1 A2 c2 sets has g w hT i e gi nx ny
  · exact pHas3_any m A1 c1 A2 c2 sets has g w hT i e gi nx ny
  · simp [usesX, usesY] at ho
    exact pHas4_any m A1 c1 A2 c2 sets has g w hT i e gi nx ny ho.1
  · simp [usesX, usesY] at ho
    exact pHas5_any m A1 c1 A2 c2 sets has g w hT i e gi nx ny ho.1 ho.2
  · simp [usesX, usesY] at ho
    exact pHas6_any m A1 c1 A2 c2 sets has g w hT i e gi nx ny ho.1 ho.2
  · simp [usesX, usesY] at ho
    exact pHas7_any m A1 c1 A2 c2 sets has g w hT i e gi nx ny ho.1 ho.2
  · simp [usesX, usesY] at ho
    exact pHas8_any m A1 c1 A2 c2 sets has g w hT i e gi nx ny ho.1 ho.2
  · simp [usesX, usesY] at ho
    exact pHas9_any m A1 c1 A2 c2 sets has g w hT i e gi nx ny ho.1
  · simp [usesX, usesY] at ho
    exact pHas10_any m A1 c1 A2 c2 sets has g w hT i e gi nx ny ho.1
  · simp [usesX, usesY] at ho
    simp [shG, hasGroup] at r3
    exact pHas11_any m A1 c1 A2 c2 sets has g w hT i e gi nx ny (by omega) hnr ho.1
  · simp [usesX, usesY] at ho
    simp [shG, hasGroup] at r3
    exact pHas12_any m A1 c1 A2 c2 sets has g w hT i e gi nx ny (by omega) hnr ho.1
  · simp [usesX, usesY] at ho
    simp [shG, hasGroup] at r3
    exact pHas13_any m A1 c1 A2 c2 sets has g w hT i e gi nx ny (by omega) hnr ho.1 ho.2
  · have hv : hasN m.rel.length m.val.length ⟨op, i, e, gi, nx, ny⟩ (has.getD nx.toNat false) (has.getD ny.toNat false) = false := by
      unfold hasN
      dsimp only
      repeat' split
      all_goals first | omega | rfl
    rw [hv]
    exact pHasop_any m A1 c1 A2 c2 sets has g w hT i e gi nx ny op h.1
end Go.Proofs.YtjpmhbnikoggaaaDoor
