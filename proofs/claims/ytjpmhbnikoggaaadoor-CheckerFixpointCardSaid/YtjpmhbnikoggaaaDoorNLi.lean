/- Layer 17: the set of a node, by the program. -/
import Derived.Test.YtjpmhbnikoggaaaDoorNLh
namespace Go.Proofs.YtjpmhbnikoggaaaDoor
open Go.RowKit Go.Proofs.Ws
set_option maxRecDepth 100000
section
variable (m : Mo) (A1 : Option Addr) (c1 : Nat) (A2 : Option Addr) (c2 : Nat) (sets : List Nat) (has : List Bool) (g : Nat) (w : World) (hT : TS w g m A1 c1 A2 c2 sets has) (hM : MoR w w.heap.size (.agg #[.int .i64 m.n, .slice A1 m.val.length c1, .slice A2 m.rel.length c2]) m) (hz : chkM m = 0) (hTab : Tab w) (hW : Words sets)
include hT hM hz hTab hW
set_option maxHeartbeats 8000000 in
theorem pSet1_any (i e gi nx ny : Int) : Calls Tryd.prog 67 #[.pointer (some ⟨g, 0, none⟩), .agg #[.int .i64 1, .int .i64 i, .int .i64 e, .int .i64 gi, .int .i64 nx, .int .i64 ny]] w fun e' w' => e' = .returned (.int .u64 ((setN m ⟨1, i, e, gi, nx, ny⟩ (sets.getD nx.toNat 0) (sets.getD ny.toNat 0) : Nat) : Int)) ∧ Below w.heap.size w w' := by
  have hUse : _ ∧ _ ∧ _ ∧ _ := ⟨hM, hz, hTab, hW⟩
  clear hUse
  have hg := hT.lt
  have HB : Hid (Below w.heap.size w (w.alloc (.cells #[.int .i64 1, .int .i64 i, .int .i64 e, .int .i64 gi, .int .i64 nx, .int .i64 ny] 62))) := Lib.hid ((Below.refl _ w).alloc (Nat.le_refl _) _)
  have hT2 := hT.below HB.out
  have hall : allV m.n < 18446744073709551616 := allV_lt _
  obtain ⟨t0, t1, t2, t3, ⟨A4, c4, t4, hr⟩, _⟩ := hT2.cells
  have HV : Hid (setN m ⟨1, i, e, gi, nx, ny⟩ (sets.getD nx.toNat 0) (sets.getD ny.toNat 0) = allV m.n) := Lib.hid rfl
  rw [HV.out]
  clear HV
  generalize allV m.n = al at *
  generalize sets.length = sl at *
  generalize m.val.length = vl at *
  generalize m.rel.length = rl at *
  clear hT hT2 hr hM hz hTab hW hall
  go_enter Tryd.func67, Tryd.ntmps67
  go_wp2
  go_ret
  exact ⟨rfl, HB.out⟩
set_option maxHeartbeats 8000000 in
theorem pSet2_any (i e gi nx ny : Int) : Calls Tryd.prog 67 #[.pointer (some ⟨g, 0, none⟩), .agg #[.int .i64 2, .int .i64 i, .int .i64 e, .int .i64 gi, .int .i64 nx, .int .i64 ny]] w fun e' w' => e' = .returned (.int .u64 ((setN m ⟨2, i, e, gi, nx, ny⟩ (sets.getD nx.toNat 0) (sets.getD ny.toNat 0) : Nat) : Int)) ∧ Below w.heap.size w w' := by
  have hUse : _ ∧ _ ∧ _ ∧ _ := ⟨hM, hz, hTab, hW⟩
  clear hUse
  have hg := hT.lt
  have HB : Hid (Below w.heap.size w (w.alloc (.cells #[.int .i64 2, .int .i64 i, .int .i64 e, .int .i64 gi, .int .i64 nx, .int .i64 ny] 62))) := Lib.hid ((Below.refl _ w).alloc (Nat.le_refl _) _)
  have hT2 := hT.below HB.out
  have hall : allV m.n < 18446744073709551616 := allV_lt _
  obtain ⟨t0, t1, t2, t3, ⟨A4, c4, t4, hr⟩, _⟩ := hT2.cells
  have HV : Hid (setN m ⟨2, i, e, gi, nx, ny⟩ (sets.getD nx.toNat 0) (sets.getD ny.toNat 0) = 0) := Lib.hid rfl
  rw [HV.out]
  clear HV
  generalize allV m.n = al at *
  generalize sets.length = sl at *
  generalize m.val.length = vl at *
  generalize m.rel.length = rl at *
  clear hT hT2 hr hM hz hTab hW hall
  go_enter Tryd.func67, Tryd.ntmps67
  go_wp2
  go_ret
  exact ⟨rfl, HB.out⟩
set_option maxHeartbeats 8000000 in
theorem pSet3_any (i e gi nx ny : Int) (hi : 0 ≤ i ∧ i < (m.val.length : Int)) : Calls Tryd.prog 67 #[.pointer (some ⟨g, 0, none⟩), .agg #[.int .i64 3, .int .i64 i, .int .i64 e, .int .i64 gi, .int .i64 nx, .int .i64 ny]] w fun e' w' => e' = .returned (.int .u64 ((setN m ⟨3, i, e, gi, nx, ny⟩ (sets.getD nx.toNat 0) (sets.getD ny.toNat 0) : Nat) : Int)) ∧ Below w.heap.size w w' := by
  have hUse : _ ∧ _ ∧ _ ∧ _ := ⟨hM, hz, hTab, hW⟩
  clear hUse
  have hg := hT.lt
  have HB : Hid (Below w.heap.size w (w.alloc (.cells #[.int .i64 3, .int .i64 i, .int .i64 e, .int .i64 gi, .int .i64 nx, .int .i64 ny] 62))) := Lib.hid ((Below.refl _ w).alloc (Nat.le_refl _) _)
  have hT2 := hT.below HB.out
  have hall : allV m.n < 18446744073709551616 := allV_lt _
  obtain ⟨t0, t1, t2, t3, ⟨A4, c4, t4, hr⟩, _⟩ := hT2.cells
  obtain ⟨k, rfl⟩ : ∃ k : Nat, i = (k : Int) := ⟨i.toNat, by omega⟩
  have HV : Hid (setN m ⟨3, (k : Int), e, gi, nx, ny⟩ (sets.getD nx.toNat 0) (sets.getD ny.toNat 0) = m.val.getD k 0) := Lib.hid rfl
  rw [HV.out]
  clear HV
  obtain ⟨B1, d1, B2, d2, e1, hv, _⟩ := hM.ex
  injection e1 with e1
  obtain ⟨e3, e4, e5⟩ : A1 = B1 ∧ c1 = d1 ∧ A2 = B2 := by simp at e1; exact ⟨e1.1.1, e1.1.2, e1.2.1⟩
  subst e3 e4 e5
  obtain ⟨ad, hA, hbl, hc0⟩ := hv.word_k (k := k) (by omega)
  subst hA
  have hc := (HB.out.cell (p := ad.add k) (by rw [block_of_add]; exact hbl)).trans hc0
  have hlen : (k : Int) < (m.val.length : Int) := by omega
  generalize m.val.getD k 0 = z at *
  generalize allV m.n = al at *
  generalize sets.length = sl at *
  generalize m.val.length = vl at *
  generalize m.rel.length = rl at *
  clear hT hT2 hr hM hz hTab hW hall hv e1 hc0 hi
  go_enter Tryd.func67, Tryd.ntmps67
  go_wp2
  go_quiet (fail)
  go_wp2
  go_ret
  exact ⟨rfl, below_drewN HB.out _⟩
set_option maxHeartbeats 8000000 in
theorem pSet4_any (i e gi nx ny : Int) (hx0 : 0 ≤ nx ∧ nx < (sets.length : Int)) : Calls Tryd.prog 67 #[.pointer (some ⟨g, 0, none⟩), .agg #[.int .i64 4, .int .i64 i, .int .i64 e, .int .i64 gi, .int .i64 nx, .int .i64 ny]] w fun e' w' => e' = .returned (.int .u64 ((setN m ⟨4, i, e, gi, nx, ny⟩ (sets.getD nx.toNat 0) (sets.getD ny.toNat 0) : Nat) : Int)) ∧ Below w.heap.size w w' := by
  have hUse : _ ∧ _ ∧ _ ∧ _ := ⟨hM, hz, hTab, hW⟩
  clear hUse
  have hg := hT.lt
  have HB : Hid (Below w.heap.size w (w.alloc (.cells #[.int .i64 4, .int .i64 i, .int .i64 e, .int .i64 gi, .int .i64 nx, .int .i64 ny] 62))) := Lib.hid ((Below.refl _ w).alloc (Nat.le_refl _) _)
  have hT2 := hT.below HB.out
  have hall : allV m.n < 18446744073709551616 := allV_lt _
  obtain ⟨t0, t1, t2, t3, ⟨A4, c4, t4, hr⟩, _⟩ := hT2.cells
  obtain ⟨x, rfl⟩ : ∃ x : Nat, nx = (x : Int) := ⟨nx.toNat, by omega⟩
  obtain ⟨ad, rfl, hxl, hx⟩ := hr.word_k (k := x) (by omega)
  have hsx := words_getD hW x
  rw [show ((x : Int)).toNat = x from rfl]
  have hlen : (x : Int) < (sets.length : Int) := by omega
  have HV : Hid (setN m ⟨4, i, e, gi, (x : Int), ny⟩ (sets.getD x 0) (sets.getD ny.toNat 0) = anN (allV m.n) (sets.getD x 0)) := Lib.hid rfl
  rw [HV.out]
  clear HV
  have HN := Lib.hid (fun p => ckNot_any m A1 c1 A2 c2 sets has g _ (hT.below (below_drewN HB.out p)) (sets.getD x 0) hsx)
  generalize sets.getD x 0 = sx at *
  generalize anN (allV m.n) sx = z at *
  generalize allV m.n = al at *
  generalize sets.length = sl at *
  generalize m.val.length = vl at *
  generalize m.rel.length = rl at *
  clear hT hT2 hr hM hz hTab hW hall
  go_enter Tryd.func67, Tryd.ntmps67
  go_wp2
  go_quiet (first | (go_at_call 76; exact quiet_same (HN.out _)))
  go_wp2
  go_ret
  exact ⟨rfl, below_drewN HB.out _⟩
set_option maxHeartbeats 8000000 in
theorem pSet5_any (i e gi nx ny : Int) (hx0 : 0 ≤ nx ∧ nx < (sets.length : Int)) (hy0 : 0 ≤ ny ∧ ny < (sets.length : Int)) : Calls Tryd.prog 67 #[.pointer (some ⟨g, 0, none⟩), .agg #[.int .i64 5, .int .i64 i, .int .i64 e, .int .i64 gi, .int .i64 nx, .int .i64 ny]] w fun e' w' => e' = .returned (.int .u64 ((setN m ⟨5, i, e, gi, nx, ny⟩ (sets.getD nx.toNat 0) (sets.getD ny.toNat 0) : Nat) : Int)) ∧ Below w.heap.size w w' := by
  have hUse : _ ∧ _ ∧ _ ∧ _ := ⟨hM, hz, hTab, hW⟩
  clear hUse
  have hg := hT.lt
  have HB : Hid (Below w.heap.size w (w.alloc (.cells #[.int .i64 5, .int .i64 i, .int .i64 e, .int .i64 gi, .int .i64 nx, .int .i64 ny] 62))) := Lib.hid ((Below.refl _ w).alloc (Nat.le_refl _) _)
  have hT2 := hT.below HB.out
  have hall : allV m.n < 18446744073709551616 := allV_lt _
  obtain ⟨t0, t1, t2, t3, ⟨A4, c4, t4, hr⟩, _⟩ := hT2.cells
  obtain ⟨x, rfl⟩ : ∃ x : Nat, nx = (x : Int) := ⟨nx.toNat, by omega⟩
  obtain ⟨ad, rfl, hxl, hx⟩ := hr.word_k (k := x) (by omega)
  have hsx := words_getD hW x
  rw [show ((x : Int)).toNat = x from rfl]
  have hlen : (x : Int) < (sets.length : Int) := by omega
  obtain ⟨y, rfl⟩ : ∃ y : Nat, ny = (y : Int) := ⟨ny.toNat, by omega⟩
  obtain ⟨ad2, e2, hyl, hy⟩ := hr.word_k (k := y) (by omega)
  injection e2 with e2
  subst e2
  have hsy := words_getD hW y
  rw [show ((y : Int)).toNat = y from rfl]
  have hlen2 : (y : Int) < (sets.length : Int) := by omega
  have HV : Hid (setN m ⟨5, i, e, gi, (x : Int), (y : Int)⟩ (sets.getD x 0) (sets.getD y 0) = sets.getD x 0 &&& sets.getD y 0) := Lib.hid rfl
  rw [HV.out]
  clear HV
  have hop := u64_and_nat _ _ hsx hsy
  generalize sets.getD x 0 = sx at *
  generalize sets.getD y 0 = sy at *
  generalize sx &&& sy = z at *
  generalize allV m.n = al at *
  generalize sets.length = sl at *
  generalize m.val.length = vl at *
  generalize m.rel.length = rl at *
  clear hT hT2 hr hM hz hTab hW hall
  go_enter Tryd.func67, Tryd.ntmps67
  go_wp2
  go_quiet (fail)
  go_wp2
  go_ret
  exact ⟨rfl, below_drewN HB.out _⟩
set_option maxHeartbeats 8000000 in
theorem pSet6_any (i e gi nx ny : Int) (hx0 : 0 ≤ nx ∧ nx < (sets.length : Int)) (hy0 : 0 ≤ ny ∧ ny < (sets.length : Int)) : Calls Tryd.prog 67 #[.pointer (some ⟨g, 0, none⟩), .agg #[.int .i64 6, .int .i64 i, .int .i64 e, .int .i64 gi, .int .i64 nx, .int .i64 ny]] w fun e' w' => e' = .returned (.int .u64 ((setN m ⟨6, i, e, gi, nx, ny⟩ (sets.getD nx.toNat 0) (sets.getD ny.toNat 0) : Nat) : Int)) ∧ Below w.heap.size w w' := by
  have hUse : _ ∧ _ ∧ _ ∧ _ := ⟨hM, hz, hTab, hW⟩
  clear hUse
  have hg := hT.lt
  have HB : Hid (Below w.heap.size w (w.alloc (.cells #[.int .i64 6, .int .i64 i, .int .i64 e, .int .i64 gi, .int .i64 nx, .int .i64 ny] 62))) := Lib.hid ((Below.refl _ w).alloc (Nat.le_refl _) _)
  have hT2 := hT.below HB.out
  have hall : allV m.n < 18446744073709551616 := allV_lt _
  obtain ⟨t0, t1, t2, t3, ⟨A4, c4, t4, hr⟩, _⟩ := hT2.cells
  obtain ⟨x, rfl⟩ : ∃ x : Nat, nx = (x : Int) := ⟨nx.toNat, by omega⟩
  obtain ⟨ad, rfl, hxl, hx⟩ := hr.word_k (k := x) (by omega)
  have hsx := words_getD hW x
  rw [show ((x : Int)).toNat = x from rfl]
  have hlen : (x : Int) < (sets.length : Int) := by omega
  obtain ⟨y, rfl⟩ : ∃ y : Nat, ny = (y : Int) := ⟨ny.toNat, by omega⟩
  obtain ⟨ad2, e2, hyl, hy⟩ := hr.word_k (k := y) (by omega)
  injection e2 with e2
  subst e2
  have hsy := words_getD hW y
  rw [show ((y : Int)).toNat = y from rfl]
  have hlen2 : (y : Int) < (sets.length : Int) := by omega
  have HV : Hid (setN m ⟨6, i, e, gi, (x : Int), (y : Int)⟩ (sets.getD x 0) (sets.getD y 0) = sets.getD x 0 ||| sets.getD y 0) := Lib.hid rfl
  rw [HV.out]
  clear HV
  have hop := u64_or_nat _ _ hsx hsy
  generalize sets.getD x 0 = sx at *
  generalize sets.getD y 0 = sy at *
  generalize sx ||| sy = z at *
  generalize allV m.n = al at *
  generalize sets.length = sl at *
  generalize m.val.length = vl at *
  generalize m.rel.length = rl at *
  clear hT hT2 hr hM hz hTab hW hall
  go_enter Tryd.func67, Tryd.ntmps67
  go_wp2
  go_quiet (fail)
  go_wp2
  go_ret
  exact ⟨rfl, below_drewN HB.out _⟩
set_option maxHeartbeats 8000000 in
theorem pSet7_any (i e gi nx ny : Int) (hx0 : 0 ≤ nx ∧ nx < (sets.length : Int)) (hy0 : 0 ≤ ny ∧ ny < (sets.length : Int)) : Calls Tryd.prog 67 #[.pointer (some ⟨g, 0, none⟩), .agg #[.int .i64 7, .int .i64 i, .int .i64 e, .int .i64 gi, .int .i64 nx, .int .i64 ny]] w fun e' w' => e' = .returned (.int .u64 ((setN m ⟨7, i, e, gi, nx, ny⟩ (sets.getD nx.toNat 0) (sets.getD ny.toNat 0) : Nat) : Int)) ∧ Below w.heap.size w w' := by
  have hUse : _ ∧ _ ∧ _ ∧ _ := ⟨hM, hz, hTab, hW⟩
  clear hUse
  have hg := hT.lt
  have HB : Hid (Below w.heap.size w (w.alloc (.cells #[.int .i64 7, .int .i64 i, .int .i64 e, .int .i64 gi, .int .i64 nx, .int .i64 ny] 62))) := Lib.hid ((Below.refl _ w).alloc (Nat.le_refl _) _)
  have hT2 := hT.below HB.out
  have hall : allV m.n < 18446744073709551616 := allV_lt _
  obtain ⟨t0, t1, t2, t3, ⟨A4, c4, t4, hr⟩, _⟩ := hT2.cells
  obtain ⟨x, rfl⟩ : ∃ x : Nat, nx = (x : Int) := ⟨nx.toNat, by omega⟩
  obtain ⟨ad, rfl, hxl, hx⟩ := hr.word_k (k := x) (by omega)
  have hsx := words_getD hW x
  rw [show ((x : Int)).toNat = x from rfl]
  have hlen : (x : Int) < (sets.length : Int) := by omega
  obtain ⟨y, rfl⟩ : ∃ y : Nat, ny = (y : Int) := ⟨ny.toNat, by omega⟩
  obtain ⟨ad2, e2, hyl, hy⟩ := hr.word_k (k := y) (by omega)
  injection e2 with e2
  subst e2
  have hsy := words_getD hW y
  rw [show ((y : Int)).toNat = y from rfl]
  have hlen2 : (y : Int) < (sets.length : Int) := by omega
  have HV : Hid (setN m ⟨7, i, e, gi, (x : Int), (y : Int)⟩ (sets.getD x 0) (sets.getD y 0) = anN (allV m.n) (sets.getD x 0) ||| sets.getD y 0) := Lib.hid rfl
  rw [HV.out]
  clear HV
  have hop := u64_or_nat _ _ (anN_lt (allV m.n) (sets.getD x 0) hall) hsy
  have HN := Lib.hid (fun p => ckNot_any m A1 c1 A2 c2 sets has g _ (hT.below (below_drewN HB.out p)) (sets.getD x 0) hsx)
  generalize sets.getD x 0 = sx at *
  generalize sets.getD y 0 = sy at *
  generalize anN (allV m.n) sx = z at *
  generalize z ||| sy = zz at *
  generalize allV m.n = al at *
  generalize sets.length = sl at *
  generalize m.val.length = vl at *
  generalize m.rel.length = rl at *
  clear hT hT2 hr hM hz hTab hW hall
  go_enter Tryd.func67, Tryd.ntmps67
  go_wp2
  go_quiet (first | (go_at_call 76; exact quiet_same (HN.out _)))
  go_wp2
  go_ret
  exact ⟨rfl, below_drewN HB.out _⟩
set_option maxHeartbeats 8000000 in
theorem pSet8_any (i e gi nx ny : Int) (hx0 : 0 ≤ nx ∧ nx < (sets.length : Int)) (hy0 : 0 ≤ ny ∧ ny < (sets.length : Int)) : Calls Tryd.prog 67 #[.pointer (some ⟨g, 0, none⟩), .agg #[.int .i64 8, .int .i64 i, .int .i64 e, .int .i64 gi, .int .i64 nx, .int .i64 ny]] w fun e' w' => e' = .returned (.int .u64 ((setN m ⟨8, i, e, gi, nx, ny⟩ (sets.getD nx.toNat 0) (sets.getD ny.toNat 0) : Nat) : Int)) ∧ Below w.heap.size w w' := by
  have hUse : _ ∧ _ ∧ _ ∧ _ := ⟨hM, hz, hTab, hW⟩
  clear hUse
  have hg := hT.lt
  have HB : Hid (Below w.heap.size w (w.alloc (.cells #[.int .i64 8, .int .i64 i, .int .i64 e, .int .i64 gi, .int .i64 nx, .int .i64 ny] 62))) := Lib.hid ((Below.refl _ w).alloc (Nat.le_refl _) _)
  have hT2 := hT.below HB.out
  have hall : allV m.n < 18446744073709551616 := allV_lt _
  obtain ⟨t0, t1, t2, t3, ⟨A4, c4, t4, hr⟩, _⟩ := hT2.cells
  obtain ⟨x, rfl⟩ : ∃ x : Nat, nx = (x : Int) := ⟨nx.toNat, by omega⟩
  obtain ⟨ad, rfl, hxl, hx⟩ := hr.word_k (k := x) (by omega)
  have hsx := words_getD hW x
  rw [show ((x : Int)).toNat = x from rfl]
  have hlen : (x : Int) < (sets.length : Int) := by omega
  obtain ⟨y, rfl⟩ : ∃ y : Nat, ny = (y : Int) := ⟨ny.toNat, by omega⟩
  obtain ⟨ad2, e2, hyl, hy⟩ := hr.word_k (k := y) (by omega)
  injection e2 with e2
  subst e2
  have hsy := words_getD hW y
  rw [show ((y : Int)).toNat = y from rfl]
  have hlen2 : (y : Int) < (sets.length : Int) := by omega
  have HV : Hid (setN m ⟨8, i, e, gi, (x : Int), (y : Int)⟩ (sets.getD x 0) (sets.getD y 0) = anN (allV m.n) (sets.getD x 0 ^^^ sets.getD y 0)) := Lib.hid rfl
  rw [HV.out]
  clear HV
  have hop := u64_xor_nat _ _ hsx hsy
  have hxw : sets.getD x 0 ^^^ sets.getD y 0 < 18446744073709551616 := Nat.xor_lt_two_pow (n := 64) hsx hsy
  have HN := Lib.hid (fun p => ckNot_any m A1 c1 A2 c2 sets has g _ (hT.below (below_drewN HB.out p)) (sets.getD x 0 ^^^ sets.getD y 0) hxw)
  generalize sets.getD x 0 = sx at *
  generalize sets.getD y 0 = sy at *
  generalize sx ^^^ sy = q at *
  generalize anN (allV m.n) q = z at *
  generalize allV m.n = al at *
  generalize sets.length = sl at *
  generalize m.val.length = vl at *
  generalize m.rel.length = rl at *
  clear hT hT2 hr hM hz hTab hW hall
  go_enter Tryd.func67, Tryd.ntmps67
  go_wp2
  go_quiet (first | (go_at_call 76; exact quiet_same (HN.out _)))
  go_wp2
  go_ret
  exact ⟨rfl, below_drewN HB.out _⟩
set_option maxHeartbeats 8000000 in
theorem pSet9_any (i e gi nx ny : Int) (hi : 0 ≤ i ∧ i < (m.rel.length : Int)) (hx0 : 0 ≤ nx ∧ nx < (sets.length : Int)) : Calls Tryd.prog 67 #[.pointer (some ⟨g, 0, none⟩), .agg #[.int .i64 9, .int .i64 i, .int .i64 e, .int .i64 gi, .int .i64 nx, .int .i64 ny]] w fun e' w' => e' = .returned (.int .u64 ((setN m ⟨9, i, e, gi, nx, ny⟩ (sets.getD nx.toNat 0) (sets.getD ny.toNat 0) : Nat) : Int)) ∧ Below w.heap.size w w' := by
  have hUse : _ ∧ _ ∧ _ ∧ _ := ⟨hM, hz, hTab, hW⟩
  clear hUse
  have hg := hT.lt
  have HB : Hid (Below w.heap.size w (w.alloc (.cells #[.int .i64 9, .int .i64 i, .int .i64 e, .int .i64 gi, .int .i64 nx, .int .i64 ny] 62))) := Lib.hid ((Below.refl _ w).alloc (Nat.le_refl _) _)
  have hT2 := hT.below HB.out
  have hall : allV m.n < 18446744073709551616 := allV_lt _
  obtain ⟨t0, t1, t2, t3, ⟨A4, c4, t4, hr⟩, _⟩ := hT2.cells
  obtain ⟨x, rfl⟩ : ∃ x : Nat, nx = (x : Int) := ⟨nx.toNat, by omega⟩
  obtain ⟨ad, rfl, hxl, hx⟩ := hr.word_k (k := x) (by omega)
  have hsx := words_getD hW x
  rw [show ((x : Int)).toNat = x from rfl]
  have hlen : (x : Int) < (sets.length : Int) := by omega
  obtain ⟨k, rfl⟩ : ∃ k : Nat, i = (k : Int) := ⟨i.toNat, by omega⟩
  have hk : k < m.rel.length := by omega
  obtain ⟨B1, d1, B2, d2, e1, _, hrr⟩ := hM.ex
  injection e1 with e1
  obtain ⟨e3, e4, e5, e6⟩ : A1 = B1 ∧ c1 = d1 ∧ A2 = B2 ∧ c2 = d2 := by simp at e1; exact ⟨e1.1.1, e1.1.2, e1.2.1, e1.2.2⟩
  subst e3 e4 e5 e6
  obtain ⟨ar, Aj, cj, hA2, hbl, hc0, hrj, hjl⟩ := hrr.at_ hk
  subst hA2
  have hrw : Words (m.rel.getD k []) := hM.wrel _ (getD_mem' hk)
  have hc := (HB.out.cell (p := ar.add k) (by rw [block_of_add]; exact hbl)).trans hc0
  have HBX := Lib.hid (fun W (hb : Below w.heap.size w W) => box_any (m.rel.getD k []) (sets.getD x 0) Aj _ cj W ((hrj.below hb).more hb.size) hrw hjl hsx)
  have HV : Hid (setN m ⟨9, (k : Int), e, gi, (x : Int), ny⟩ (sets.getD x 0) (sets.getD ny.toNat 0) = whV (pBox (sets.getD x 0)) (m.rel.getD k [])) := Lib.hid rfl
  rw [HV.out]
  clear HV
  have hklen : (k : Int) < (m.rel.length : Int) := by omega
  generalize whV (pBox (sets.getD x 0)) (m.rel.getD k []) = z at *
  generalize (m.rel.getD k []).length = N at *
  have HU : Hid (∀ W, Below (w.alloc (.cells #[.int .i64 9, .int .i64 (k : Int), .int .i64 e, .int .i64 gi, .int .i64 (x : Int), .int .i64 ny] 62)).heap.size (w.alloc (.cells #[.int .i64 9, .int .i64 (k : Int), .int .i64 e, .int .i64 gi, .int .i64 (x : Int), .int .i64 ny] 62)) W → Below w.heap.size w W ∧ W.cell? ⟨g, 0, none⟩ = some (.int .i64 m.n) ∧ W.cell? ⟨g, 1, none⟩ = some (.slice A1 m.val.length c1) ∧ W.cell? ⟨g, 2, none⟩ = some (.slice (some ar) m.rel.length c2) ∧ W.cell? ⟨g, 4, none⟩ = some (.slice (some ad) sets.length c4) ∧ W.cell? ⟨w.heap.size, 1, none⟩ = some (.int .i64 (k : Int)) ∧ W.cell? ⟨w.heap.size, 3, none⟩ = some (.int .i64 gi) ∧ W.cell? ⟨w.heap.size, 4, none⟩ = some (.int .i64 (x : Int)) ∧ W.cell? (ad.add x) = some (.int .u64 ((sets.getD x 0 : Nat) : Int)) ∧ W.cell? (ar.add k) = some (.slice Aj N cj)) := Lib.hid (fun W hb => by
    have kb := (hb.block w.heap.size (by simp)).trans (heap_alloc_new w (.cells #[.int .i64 9, .int .i64 (k : Int), .int .i64 e, .int .i64 gi, .int .i64 (x : Int), .int .i64 ny] 62))
    exact ⟨HB.out.trans (hb.mono HB.out.size), (hb.cell (by simp; omega)).trans t0, (hb.cell (by simp; omega)).trans t1, (hb.cell (by simp; omega)).trans t2, (hb.cell (by simp; omega)).trans t4, (Lib.cell_of_heap kb 1).trans rfl, (Lib.cell_of_heap kb 3).trans rfl, (Lib.cell_of_heap kb 4).trans rfl, (hb.cell (by rw [block_of_add]; exact hxl)).trans hx, (hb.cell (by rw [block_of_add]; exact Nat.lt_of_lt_of_le hbl HB.out.size)).trans hc⟩)
  have HR0 : Hid (Below (w.alloc (.cells #[.int .i64 9, .int .i64 (k : Int), .int .i64 e, .int .i64 gi, .int .i64 (x : Int), .int .i64 ny] 62)).heap.size (w.alloc (.cells #[.int .i64 9, .int .i64 (k : Int), .int .i64 e, .int .i64 gi, .int .i64 (x : Int), .int .i64 ny] 62)) (w.alloc (.cells #[.int .i64 9, .int .i64 (k : Int), .int .i64 e, .int .i64 gi, .int .i64 (x : Int), .int .i64 ny] 62))) := Lib.hid (Below.refl _ _)
  obtain ⟨w2, hW2⟩ : ∃ W, w.alloc (.cells #[.int .i64 9, .int .i64 (k : Int), .int .i64 e, .int .i64 gi, .int .i64 (x : Int), .int .i64 ny] 62) = W := ⟨_, rfl⟩
  rw [hW2] at HU HR0
  have HW2 := Lib.hid hW2
  clear hW2
  generalize sets.getD x 0 = sx at *
  generalize allV m.n = al at *
  generalize sets.length = sl at *
  generalize m.val.length = vl at *
  generalize m.rel.length = rl at *
  clear hT hT2 hr hM hz hTab hW hall t0 t1 t2 t3 t4 hx hxl hx0 hi hk e1 hrr hc0 hrj hjl hrw hc hbl
  go_enter Tryd.func67, Tryd.ntmps67
  go_wp2
  refine wp_region_mix [.pointer (some ⟨g, 0, none⟩), .pointer (some ⟨g, 0, none⟩), .pointer (some ⟨g, 0, none⟩), .pointer (some ⟨g, 2, none⟩), .slice (some ar) rl c2, .pointer (some ⟨w.heap.size, 1, none⟩), .int .i64 (k : Int), .pointer (some (ar.add k)), .slice Aj N cj, .pointer (some ⟨g, 0, none⟩), .pointer (some ⟨g, 0, none⟩), .pointer (some ⟨g, 4, none⟩), .slice (some ad) sl c4, .pointer (some ⟨w.heap.size, 4, none⟩), .int .i64 (x : Int), .pointer (some (ad.add x)), .int .u64 (sx : Int), .int .u64 (z : Int), .int .u64 (z : Int)] [118, 119, 120, 121, 122, 123, 124, 125, 126, 127, 128, 129, 130, 131, 132, 133, 134, 135, 4] [1, 2, 3, 4, 5, 6, 7, 8, 10, 11, 12, 13, 14, 15, 16, 17] (fun W => Below w2.heap.size w2 W) (fun W W' => Below W.heap.size W W') 19 214 rfl rfl rfl rfl (by decide) (by decide) (by kernel_rfl) (by kernel_rfl) (by kernel_rfl) (fun W => Below.refl _ W) (fun W1 W2 W3 h1 h2 => h1.trans (h2.mono h1.size)) (fun W W' h h2 => h.trans (h2.mono h.size)) (HW2.out ▸ HR0.out.drew) (by kernel_rfl) [] rfl ?hop ?fin
  case hop =>
    refine (And.intro ?s1 (And.intro ?s2 (And.intro ?s3 (And.intro ?s4 (And.intro ?s5 (And.intro ?s6 (And.intro ?s7 (And.intro ?s8 (And.intro ?s10 (And.intro ?s11 (And.intro ?s12 (And.intro ?s13 (And.intro ?s14 (And.intro ?s15 (And.intro ?s16 (And.intro ?s17 trivial))))))))))))))))
    case s1 =>
      refine And.intro (by rfl) (fun tm W hS hsz hfr hdep K hK => ?_)
      change tm.size = 214 at hsz
      have t118 : tm.getD 118 undef = .pointer (some ⟨g, 0, none⟩) := hdep 0 (by rfl) (by decide)
      clear hdep hfr
      go_simp
      exact hK W (Below.refl _ W)
    case s2 =>
      refine And.intro (by rfl) (fun tm W hS hsz hfr hdep K hK => ?_)
      change tm.size = 214 at hsz
      have t119 : tm.getD 119 undef = .pointer (some ⟨g, 0, none⟩) := hdep 1 (by rfl) (by decide)
      clear hdep hfr
      go_simp
      exact hK W (Below.refl _ W)
    case s3 =>
      refine And.intro (by rfl) (fun tm W hS hsz hfr hdep K hK => ?_)
      change tm.size = 214 at hsz
      have t120 : tm.getD 120 undef = .pointer (some ⟨g, 0, none⟩) := hdep 2 (by rfl) (by decide)
      clear hdep hfr
      go_simp
      exact hK W (Below.refl _ W)
    case s4 =>
      refine And.intro (by rfl) (fun tm W hS hsz hfr hdep K hK => ?_)
      change tm.size = 214 at hsz
      have t121 : tm.getD 121 undef = .pointer (some ⟨g, 2, none⟩) := hdep 3 (by rfl) (by decide)
      obtain ⟨hB9, t0, t1, t2, t4, n1, n3, n4, hx, hc⟩ := HU.out W hS
      clear hB9
      clear hdep hfr
      go_simp
      exact hK W (Below.refl _ W)
    case s5 =>
      refine And.intro (by rfl) (fun tm W hS hsz hfr hdep K hK => ?_)
      change tm.size = 214 at hsz
      have t3 : tm.getD 3 undef = .pointer (some ⟨w.heap.size, 0, none⟩) := hfr 3 (by rfl)
      clear hdep hfr
      go_simp
      exact hK W (Below.refl _ W)
    case s6 =>
      refine And.intro (by rfl) (fun tm W hS hsz hfr hdep K hK => ?_)
      change tm.size = 214 at hsz
      have t123 : tm.getD 123 undef = .pointer (some ⟨w.heap.size, 1, none⟩) := hdep 5 (by rfl) (by decide)
      obtain ⟨hB9, t0, t1, t2, t4, n1, n3, n4, hx, hc⟩ := HU.out W hS
      clear hB9
      clear hdep hfr
      go_simp
      exact hK W (Below.refl _ W)
    case s7 =>
      refine And.intro (by rfl) (fun tm W hS hsz hfr hdep K hK => ?_)
      change tm.size = 214 at hsz
      have t122 : tm.getD 122 undef = .slice (some ar) rl c2 := hdep 4 (by rfl) (by decide)
      have t124 : tm.getD 124 undef = .int .i64 (k : Int) := hdep 6 (by rfl) (by decide)
      clear hdep hfr
      go_simp
      exact hK W (Below.refl _ W)
    case s8 =>
      refine And.intro (by rfl) (fun tm W hS hsz hfr hdep K hK => ?_)
      change tm.size = 214 at hsz
      have t125 : tm.getD 125 undef = .pointer (some (ar.add k)) := hdep 7 (by rfl) (by decide)
      obtain ⟨hB9, t0, t1, t2, t4, n1, n3, n4, hx, hc⟩ := HU.out W hS
      clear hB9
      clear hdep hfr
      go_simp
      exact hK W (Below.refl _ W)
    case s10 =>
      refine And.intro (by rfl) (fun tm W hS hsz hfr hdep K hK => ?_)
      change tm.size = 214 at hsz
      have t127 : tm.getD 127 undef = .pointer (some ⟨g, 0, none⟩) := hdep 9 (by rfl) (by decide)
      clear hdep hfr
      go_simp
      exact hK W (Below.refl _ W)
    case s11 =>
      refine And.intro (by rfl) (fun tm W hS hsz hfr hdep K hK => ?_)
      change tm.size = 214 at hsz
      have t128 : tm.getD 128 undef = .pointer (some ⟨g, 0, none⟩) := hdep 10 (by rfl) (by decide)
      clear hdep hfr
      go_simp
      exact hK W (Below.refl _ W)
    case s12 =>
      refine And.intro (by rfl) (fun tm W hS hsz hfr hdep K hK => ?_)
      change tm.size = 214 at hsz
      have t129 : tm.getD 129 undef = .pointer (some ⟨g, 4, none⟩) := hdep 11 (by rfl) (by decide)
      obtain ⟨hB9, t0, t1, t2, t4, n1, n3, n4, hx, hc⟩ := HU.out W hS
      clear hB9
      clear hdep hfr
      go_simp
      exact hK W (Below.refl _ W)
    case s13 =>
      refine And.intro (by rfl) (fun tm W hS hsz hfr hdep K hK => ?_)
      change tm.size = 214 at hsz
      have t3 : tm.getD 3 undef = .pointer (some ⟨w.heap.size, 0, none⟩) := hfr 3 (by rfl)
      clear hdep hfr
      go_simp
      exact hK W (Below.refl _ W)
    case s14 =>
      refine And.intro (by rfl) (fun tm W hS hsz hfr hdep K hK => ?_)
      change tm.size = 214 at hsz
      have t131 : tm.getD 131 undef = .pointer (some ⟨w.heap.size, 4, none⟩) := hdep 13 (by rfl) (by decide)
      obtain ⟨hB9, t0, t1, t2, t4, n1, n3, n4, hx, hc⟩ := HU.out W hS
      clear hB9
      clear hdep hfr
      go_simp
      exact hK W (Below.refl _ W)
    case s15 =>
      refine And.intro (by rfl) (fun tm W hS hsz hfr hdep K hK => ?_)
      change tm.size = 214 at hsz
      have t130 : tm.getD 130 undef = .slice (some ad) sl c4 := hdep 12 (by rfl) (by decide)
      have t132 : tm.getD 132 undef = .int .i64 (x : Int) := hdep 14 (by rfl) (by decide)
      clear hdep hfr
      go_simp
      exact hK W (Below.refl _ W)
    case s16 =>
      refine And.intro (by rfl) (fun tm W hS hsz hfr hdep K hK => ?_)
      change tm.size = 214 at hsz
      have t133 : tm.getD 133 undef = .pointer (some (ad.add x)) := hdep 15 (by rfl) (by decide)
      obtain ⟨hB9, t0, t1, t2, t4, n1, n3, n4, hx, hc⟩ := HU.out W hS
      clear hB9
      clear hdep hfr
      go_simp
      exact hK W (Below.refl _ W)
    case s17 =>
      refine And.intro (by rfl) (fun tm W hS hsz hfr hdep K hK => ?_)
      change tm.size = 214 at hsz
      have t126 : tm.getD 126 undef = .slice Aj N cj := hdep 8 (by rfl) (by decide)
      have t134 : tm.getD 134 undef = .int .u64 (sx : Int) := hdep 16 (by rfl) (by decide)
      clear hdep hfr
      refine wp_call _ _ _ _ _ rfl rfl (by simp [Act.eval, t126, t134]) (by kernel_rfl) (HBX.out W (HU.out W hS).1) (fun e W9 h9 => ?_)
      obtain ⟨rfl, hb9⟩ := h9
      exact ⟨_, rfl, hK W9 hb9⟩
  case fin =>
    intro W hS
    have HS := Lib.hid hS
    clear hS
    simp only [fillD]
    go_simp
    go_wp2
    go_ret
    exact ⟨rfl, (HU.out _ HS.out).1⟩
set_option maxHeartbeats 8000000 in
theorem pSet10_any (i e gi nx ny : Int) (hi : 0 ≤ i ∧ i < (m.rel.length : Int)) (hx0 : 0 ≤ nx ∧ nx < (sets.length : Int)) : Calls Tryd.prog 67 #[.pointer (some ⟨g, 0, none⟩), .agg #[.int .i64 10, .int .i64 i, .int .i64 e, .int .i64 gi, .int .i64 nx, .int .i64 ny]] w fun e' w' => e' = .returned (.int .u64 ((setN m ⟨10, i, e, gi, nx, ny⟩ (sets.getD nx.toNat 0) (sets.getD ny.toNat 0) : Nat) : Int)) ∧ Below w.heap.size w w' := by
  have hUse : _ ∧ _ ∧ _ ∧ _ := ⟨hM, hz, hTab, hW⟩
  clear hUse
  have hg := hT.lt
  have HB : Hid (Below w.heap.size w (w.alloc (.cells #[.int .i64 10, .int .i64 i, .int .i64 e, .int .i64 gi, .int .i64 nx, .int .i64 ny] 62))) := Lib.hid ((Below.refl _ w).alloc (Nat.le_refl _) _)
  have hT2 := hT.below HB.out
  have hall : allV m.n < 18446744073709551616 := allV_lt _
  obtain ⟨t0, t1, t2, t3, ⟨A4, c4, t4, hr⟩, _⟩ := hT2.cells
  obtain ⟨x, rfl⟩ : ∃ x : Nat, nx = (x : Int) := ⟨nx.toNat, by omega⟩
  obtain ⟨ad, rfl, hxl, hx⟩ := hr.word_k (k := x) (by omega)
  have hsx := words_getD hW x
  rw [show ((x : Int)).toNat = x from rfl]
  have hlen : (x : Int) < (sets.length : Int) := by omega
  obtain ⟨k, rfl⟩ : ∃ k : Nat, i = (k : Int) := ⟨i.toNat, by omega⟩
  have hk : k < m.rel.length := by omega
  obtain ⟨B1, d1, B2, d2, e1, _, hrr⟩ := hM.ex
  injection e1 with e1
  obtain ⟨e3, e4, e5, e6⟩ : A1 = B1 ∧ c1 = d1 ∧ A2 = B2 ∧ c2 = d2 := by simp at e1; exact ⟨e1.1.1, e1.1.2, e1.2.1, e1.2.2⟩
  subst e3 e4 e5 e6
  obtain ⟨ar, Aj, cj, hA2, hbl, hc0, hrj, hjl⟩ := hrr.at_ hk
  subst hA2
  have hrw : Words (m.rel.getD k []) := hM.wrel _ (getD_mem' hk)
  have hc := (HB.out.cell (p := ar.add k) (by rw [block_of_add]; exact hbl)).trans hc0
  have HBX := Lib.hid (fun W (hb : Below w.heap.size w W) => dia_any (m.rel.getD k []) (sets.getD x 0) Aj _ cj W ((hrj.below hb).more hb.size) hrw hjl hsx)
  have HV : Hid (setN m ⟨10, (k : Int), e, gi, (x : Int), ny⟩ (sets.getD x 0) (sets.getD ny.toNat 0) = whV (pDia (sets.getD x 0)) (m.rel.getD k [])) := Lib.hid rfl
  rw [HV.out]
  clear HV
  have hklen : (k : Int) < (m.rel.length : Int) := by omega
  generalize whV (pDia (sets.getD x 0)) (m.rel.getD k []) = z at *
  generalize (m.rel.getD k []).length = N at *
  have HU : Hid (∀ W, Below (w.alloc (.cells #[.int .i64 10, .int .i64 (k : Int), .int .i64 e, .int .i64 gi, .int .i64 (x : Int), .int .i64 ny] 62)).heap.size (w.alloc (.cells #[.int .i64 10, .int .i64 (k : Int), .int .i64 e, .int .i64 gi, .int .i64 (x : Int), .int .i64 ny] 62)) W → Below w.heap.size w W ∧ W.cell? ⟨g, 0, none⟩ = some (.int .i64 m.n) ∧ W.cell? ⟨g, 1, none⟩ = some (.slice A1 m.val.length c1) ∧ W.cell? ⟨g, 2, none⟩ = some (.slice (some ar) m.rel.length c2) ∧ W.cell? ⟨g, 4, none⟩ = some (.slice (some ad) sets.length c4) ∧ W.cell? ⟨w.heap.size, 1, none⟩ = some (.int .i64 (k : Int)) ∧ W.cell? ⟨w.heap.size, 3, none⟩ = some (.int .i64 gi) ∧ W.cell? ⟨w.heap.size, 4, none⟩ = some (.int .i64 (x : Int)) ∧ W.cell? (ad.add x) = some (.int .u64 ((sets.getD x 0 : Nat) : Int)) ∧ W.cell? (ar.add k) = some (.slice Aj N cj)) := Lib.hid (fun W hb => by
    have kb := (hb.block w.heap.size (by simp)).trans (heap_alloc_new w (.cells #[.int .i64 10, .int .i64 (k : Int), .int .i64 e, .int .i64 gi, .int .i64 (x : Int), .int .i64 ny] 62))
    exact ⟨HB.out.trans (hb.mono HB.out.size), (hb.cell (by simp; omega)).trans t0, (hb.cell (by simp; omega)).trans t1, (hb.cell (by simp; omega)).trans t2, (hb.cell (by simp; omega)).trans t4, (Lib.cell_of_heap kb 1).trans rfl, (Lib.cell_of_heap kb 3).trans rfl, (Lib.cell_of_heap kb 4).trans rfl, (hb.cell (by rw [block_of_add]; exact hxl)).trans hx, (hb.cell (by rw [block_of_add]; exact Nat.lt_of_lt_of_le hbl HB.out.size)).trans hc⟩)
  have HR0 : Hid (Below (w.alloc (.cells #[.int .i64 10, .int .i64 (k : Int), .int .i64 e, .int .i64 gi, .int .i64 (x : Int), .int .i64 ny] 62)).heap.size (w.alloc (.cells #[.int .i64 10, .int .i64 (k : Int), .int .i64 e, .int .i64 gi, .int .i64 (x : Int), .int .i64 ny] 62)) (w.alloc (.cells #[.int .i64 10, .int .i64 (k : Int), .int .i64 e, .int .i64 gi, .int .i64 (x : Int), .int .i64 ny] 62))) := Lib.hid (Below.refl _ _)
  obtain ⟨w2, hW2⟩ : ∃ W, w.alloc (.cells #[.int .i64 10, .int .i64 (k : Int), .int .i64 e, .int .i64 gi, .int .i64 (x : Int), .int .i64 ny] 62) = W := ⟨_, rfl⟩
  rw [hW2] at HU HR0
  have HW2 := Lib.hid hW2
  clear hW2
  generalize sets.getD x 0 = sx at *
  generalize allV m.n = al at *
  generalize sets.length = sl at *
  generalize m.val.length = vl at *
  generalize m.rel.length = rl at *
  clear hT hT2 hr hM hz hTab hW hall t0 t1 t2 t3 t4 hx hxl hx0 hi hk e1 hrr hc0 hrj hjl hrw hc hbl
  go_enter Tryd.func67, Tryd.ntmps67
  go_wp2
  refine wp_region_mix [.pointer (some ⟨g, 0, none⟩), .pointer (some ⟨g, 0, none⟩), .pointer (some ⟨g, 0, none⟩), .pointer (some ⟨g, 2, none⟩), .slice (some ar) rl c2, .pointer (some ⟨w.heap.size, 1, none⟩), .int .i64 (k : Int), .pointer (some (ar.add k)), .slice Aj N cj, .pointer (some ⟨g, 0, none⟩), .pointer (some ⟨g, 0, none⟩), .pointer (some ⟨g, 4, none⟩), .slice (some ad) sl c4, .pointer (some ⟨w.heap.size, 4, none⟩), .int .i64 (x : Int), .pointer (some (ad.add x)), .int .u64 (sx : Int), .int .u64 (z : Int), .int .u64 (z : Int)] [138, 139, 140, 141, 142, 143, 144, 145, 146, 147, 148, 149, 150, 151, 152, 153, 154, 155, 4] [1, 2, 3, 4, 5, 6, 7, 8, 10, 11, 12, 13, 14, 15, 16, 17] (fun W => Below w2.heap.size w2 W) (fun W W' => Below W.heap.size W W') 19 214 rfl rfl rfl rfl (by decide) (by decide) (by kernel_rfl) (by kernel_rfl) (by kernel_rfl) (fun W => Below.refl _ W) (fun W1 W2 W3 h1 h2 => h1.trans (h2.mono h1.size)) (fun W W' h h2 => h.trans (h2.mono h.size)) (HW2.out ▸ HR0.out.drew) (by kernel_rfl) [] rfl ?hop ?fin
  case hop =>
    refine (And.intro ?s1 (And.intro ?s2 (And.intro ?s3 (And.intro ?s4 (And.intro ?s5 (And.intro ?s6 (And.intro ?s7 (And.intro ?s8 (And.intro ?s10 (And.intro ?s11 (And.intro ?s12 (And.intro ?s13 (And.intro ?s14 (And.intro ?s15 (And.intro ?s16 (And.intro ?s17 trivial))))))))))))))))
    case s1 =>
      refine And.intro (by rfl) (fun tm W hS hsz hfr hdep K hK => ?_)
      change tm.size = 214 at hsz
      have t138 : tm.getD 138 undef = .pointer (some ⟨g, 0, none⟩) := hdep 0 (by rfl) (by decide)
      clear hdep hfr
      go_simp
      exact hK W (Below.refl _ W)
    case s2 =>
      refine And.intro (by rfl) (fun tm W hS hsz hfr hdep K hK => ?_)
      change tm.size = 214 at hsz
      have t139 : tm.getD 139 undef = .pointer (some ⟨g, 0, none⟩) := hdep 1 (by rfl) (by decide)
      clear hdep hfr
      go_simp
      exact hK W (Below.refl _ W)
    case s3 =>
      refine And.intro (by rfl) (fun tm W hS hsz hfr hdep K hK => ?_)
      change tm.size = 214 at hsz
      have t140 : tm.getD 140 undef = .pointer (some ⟨g, 0, none⟩) := hdep 2 (by rfl) (by decide)
      clear hdep hfr
      go_simp
      exact hK W (Below.refl _ W)
    case s4 =>
      refine And.intro (by rfl) (fun tm W hS hsz hfr hdep K hK => ?_)
      change tm.size = 214 at hsz
      have t141 : tm.getD 141 undef = .pointer (some ⟨g, 2, none⟩) := hdep 3 (by rfl) (by decide)
      obtain ⟨hB9, t0, t1, t2, t4, n1, n3, n4, hx, hc⟩ := HU.out W hS
      clear hB9
      clear hdep hfr
      go_simp
      exact hK W (Below.refl _ W)
    case s5 =>
      refine And.intro (by rfl) (fun tm W hS hsz hfr hdep K hK => ?_)
      change tm.size = 214 at hsz
      have t3 : tm.getD 3 undef = .pointer (some ⟨w.heap.size, 0, none⟩) := hfr 3 (by rfl)
      clear hdep hfr
      go_simp
      exact hK W (Below.refl _ W)
    case s6 =>
      refine And.intro (by rfl) (fun tm W hS hsz hfr hdep K hK => ?_)
      change tm.size = 214 at hsz
      have t143 : tm.getD 143 undef = .pointer (some ⟨w.heap.size, 1, none⟩) := hdep 5 (by rfl) (by decide)
      obtain ⟨hB9, t0, t1, t2, t4, n1, n3, n4, hx, hc⟩ := HU.out W hS
      clear hB9
      clear hdep hfr
      go_simp
      exact hK W (Below.refl _ W)
    case s7 =>
      refine And.intro (by rfl) (fun tm W hS hsz hfr hdep K hK => ?_)
      change tm.size = 214 at hsz
      have t142 : tm.getD 142 undef = .slice (some ar) rl c2 := hdep 4 (by rfl) (by decide)
      have t144 : tm.getD 144 undef = .int .i64 (k : Int) := hdep 6 (by rfl) (by decide)
      clear hdep hfr
      go_simp
      exact hK W (Below.refl _ W)
    case s8 =>
      refine And.intro (by rfl) (fun tm W hS hsz hfr hdep K hK => ?_)
      change tm.size = 214 at hsz
      have t145 : tm.getD 145 undef = .pointer (some (ar.add k)) := hdep 7 (by rfl) (by decide)
      obtain ⟨hB9, t0, t1, t2, t4, n1, n3, n4, hx, hc⟩ := HU.out W hS
      clear hB9
      clear hdep hfr
      go_simp
      exact hK W (Below.refl _ W)
    case s10 =>
      refine And.intro (by rfl) (fun tm W hS hsz hfr hdep K hK => ?_)
      change tm.size = 214 at hsz
      have t147 : tm.getD 147 undef = .pointer (some ⟨g, 0, none⟩) := hdep 9 (by rfl) (by decide)
      clear hdep hfr
      go_simp
      exact hK W (Below.refl _ W)
    case s11 =>
      refine And.intro (by rfl) (fun tm W hS hsz hfr hdep K hK => ?_)
      change tm.size = 214 at hsz
      have t148 : tm.getD 148 undef = .pointer (some ⟨g, 0, none⟩) := hdep 10 (by rfl) (by decide)
      clear hdep hfr
      go_simp
      exact hK W (Below.refl _ W)
    case s12 =>
      refine And.intro (by rfl) (fun tm W hS hsz hfr hdep K hK => ?_)
      change tm.size = 214 at hsz
      have t149 : tm.getD 149 undef = .pointer (some ⟨g, 4, none⟩) := hdep 11 (by rfl) (by decide)
      obtain ⟨hB9, t0, t1, t2, t4, n1, n3, n4, hx, hc⟩ := HU.out W hS
      clear hB9
      clear hdep hfr
      go_simp
      exact hK W (Below.refl _ W)
    case s13 =>
      refine And.intro (by rfl) (fun tm W hS hsz hfr hdep K hK => ?_)
      change tm.size = 214 at hsz
      have t3 : tm.getD 3 undef = .pointer (some ⟨w.heap.size, 0, none⟩) := hfr 3 (by rfl)
      clear hdep hfr
      go_simp
      exact hK W (Below.refl _ W)
    case s14 =>
      refine And.intro (by rfl) (fun tm W hS hsz hfr hdep K hK => ?_)
      change tm.size = 214 at hsz
      have t151 : tm.getD 151 undef = .pointer (some ⟨w.heap.size, 4, none⟩) := hdep 13 (by rfl) (by decide)
      obtain ⟨hB9, t0, t1, t2, t4, n1, n3, n4, hx, hc⟩ := HU.out W hS
      clear hB9
      clear hdep hfr
      go_simp
      exact hK W (Below.refl _ W)
    case s15 =>
      refine And.intro (by rfl) (fun tm W hS hsz hfr hdep K hK => ?_)
      change tm.size = 214 at hsz
      have t150 : tm.getD 150 undef = .slice (some ad) sl c4 := hdep 12 (by rfl) (by decide)
      have t152 : tm.getD 152 undef = .int .i64 (x : Int) := hdep 14 (by rfl) (by decide)
      clear hdep hfr
      go_simp
      exact hK W (Below.refl _ W)
    case s16 =>
      refine And.intro (by rfl) (fun tm W hS hsz hfr hdep K hK => ?_)
      change tm.size = 214 at hsz
      have t153 : tm.getD 153 undef = .pointer (some (ad.add x)) := hdep 15 (by rfl) (by decide)
      obtain ⟨hB9, t0, t1, t2, t4, n1, n3, n4, hx, hc⟩ := HU.out W hS
      clear hB9
      clear hdep hfr
      go_simp
      exact hK W (Below.refl _ W)
    case s17 =>
      refine And.intro (by rfl) (fun tm W hS hsz hfr hdep K hK => ?_)
      change tm.size = 214 at hsz
      have t146 : tm.getD 146 undef = .slice Aj N cj := hdep 8 (by rfl) (by decide)
      have t154 : tm.getD 154 undef = .int .u64 (sx : Int) := hdep 16 (by rfl) (by decide)
      clear hdep hfr
      refine wp_call _ _ _ _ _ rfl rfl (by simp [Act.eval, t146, t154]) (by kernel_rfl) (HBX.out W (HU.out W hS).1) (fun e W9 h9 => ?_)
      obtain ⟨rfl, hb9⟩ := h9
      exact ⟨_, rfl, hK W9 hb9⟩
  case fin =>
    intro W hS
    have HS := Lib.hid hS
    clear hS
    simp only [fillD]
    go_simp
    go_wp2
    go_ret
    exact ⟨rfl, (HU.out _ HS.out).1⟩
set_option maxHeartbeats 8000000 in
theorem pSet11_any (i e gi nx ny : Int) (hgi : 1 ≤ gi ∧ gi < 2 ^ m.rel.length) (hx0 : 0 ≤ nx ∧ nx < (sets.length : Int)) : Calls Tryd.prog 67 #[.pointer (some ⟨g, 0, none⟩), .agg #[.int .i64 11, .int .i64 i, .int .i64 e, .int .i64 gi, .int .i64 nx, .int .i64 ny]] w fun e' w' => e' = .returned (.int .u64 ((setN m ⟨11, i, e, gi, nx, ny⟩ (sets.getD nx.toNat 0) (sets.getD ny.toNat 0) : Nat) : Int)) ∧ Below w.heap.size w w' := by
  have hUse : _ ∧ _ ∧ _ ∧ _ := ⟨hM, hz, hTab, hW⟩
  clear hUse
  have hg := hT.lt
  have HB : Hid (Below w.heap.size w (w.alloc (.cells #[.int .i64 11, .int .i64 i, .int .i64 e, .int .i64 gi, .int .i64 nx, .int .i64 ny] 62))) := Lib.hid ((Below.refl _ w).alloc (Nat.le_refl _) _)
  have hT2 := hT.below HB.out
  have hall : allV m.n < 18446744073709551616 := allV_lt _
  obtain ⟨t0, t1, t2, t3, ⟨A4, c4, t4, hr⟩, _⟩ := hT2.cells
  obtain ⟨x, rfl⟩ : ∃ x : Nat, nx = (x : Int) := ⟨nx.toNat, by omega⟩
  obtain ⟨ad, rfl, hxl, hx⟩ := hr.word_k (k := x) (by omega)
  have hsx := words_getD hW x
  rw [show ((x : Int)).toNat = x from rfl]
  have hlen : (x : Int) < (sets.length : Int) := by omega
  have ok0 := chkM_ok hz
  obtain ⟨N, hN⟩ : ∃ N : Nat, m.n = (N : Int) := ⟨m.n.toNat, ok0.num⟩
  have ok : OkM N m := by have h := ok0; rw [hN] at h; simpa using h
  clear ok0
  have hle := ok.le
  have hg64 : -9223372036854775808 ≤ gi ∧ gi < 9223372036854775808 := by
    have h2 : (2 : Int) ^ m.rel.length ≤ 2 ^ 4 := by
      have e : ((2 : Int) ^ m.rel.length) = ((2 ^ m.rel.length : Nat) : Int) := by simp
      rw [e]
      exact_mod_cast Nat.pow_le_pow_right (by decide) ok.agents
    have := hgi.1
    have := hgi.2
    omega
  have hsh : Sh N (groupL m gi) := (grp_sh hz ok hgi).1
  have HGL := Lib.hid hsh.1
  have HGR := Lib.hid (fun W (hb : Below w.heap.size w W) => pGroup_any m _ gi W (hM.below hb hb.size) hg64)
  rw [hsh.1] at HGR
  have HBX := Lib.hid (fun W A c (h : Reads W W.heap.size 1 A N (us (groupL m gi))) => box_any (groupL m gi) (sets.getD x 0) A N c W h (sh_words hle hsh) (by unfold maxLen; omega) hsx)
  have HV : Hid (setN m ⟨11, i, e, gi, (x : Int), ny⟩ (sets.getD x 0) (sets.getD ny.toNat 0) = whV (pBox (sets.getD x 0)) (groupL m gi)) := Lib.hid rfl
  rw [HV.out]
  clear HV
  clear hsh
  generalize (groupL m gi) = G at *
  generalize whV (pBox (sets.getD x 0)) G = z at *
  clear hg64 ok hN hgi
  have HU : Hid (∀ W, Below (w.alloc (.cells #[.int .i64 11, .int .i64 i, .int .i64 e, .int .i64 gi, .int .i64 (x : Int), .int .i64 ny] 62)).heap.size (w.alloc (.cells #[.int .i64 11, .int .i64 i, .int .i64 e, .int .i64 gi, .int .i64 (x : Int), .int .i64 ny] 62)) W → Below w.heap.size w W ∧ W.cell? ⟨g, 0, none⟩ = some (.int .i64 m.n) ∧ W.cell? ⟨g, 1, none⟩ = some (.slice A1 m.val.length c1) ∧ W.cell? ⟨g, 2, none⟩ = some (.slice A2 m.rel.length c2) ∧ W.cell? ⟨g, 4, none⟩ = some (.slice (some ad) sets.length c4) ∧ W.cell? ⟨w.heap.size, 1, none⟩ = some (.int .i64 i) ∧ W.cell? ⟨w.heap.size, 3, none⟩ = some (.int .i64 gi) ∧ W.cell? ⟨w.heap.size, 4, none⟩ = some (.int .i64 (x : Int)) ∧ W.cell? (ad.add x) = some (.int .u64 ((sets.getD x 0 : Nat) : Int))) := Lib.hid (fun W hb => by
    have kb := (hb.block w.heap.size (by simp)).trans (heap_alloc_new w (.cells #[.int .i64 11, .int .i64 i, .int .i64 e, .int .i64 gi, .int .i64 (x : Int), .int .i64 ny] 62))
    exact ⟨HB.out.trans (hb.mono HB.out.size), (hb.cell (by simp; omega)).trans t0, (hb.cell (by simp; omega)).trans t1, (hb.cell (by simp; omega)).trans t2, (hb.cell (by simp; omega)).trans t4, (Lib.cell_of_heap kb 1).trans rfl, (Lib.cell_of_heap kb 3).trans rfl, (Lib.cell_of_heap kb 4).trans rfl, (hb.cell (by rw [block_of_add]; exact hxl)).trans hx⟩)
  have HR0 : Hid (Below (w.alloc (.cells #[.int .i64 11, .int .i64 i, .int .i64 e, .int .i64 gi, .int .i64 (x : Int), .int .i64 ny] 62)).heap.size (w.alloc (.cells #[.int .i64 11, .int .i64 i, .int .i64 e, .int .i64 gi, .int .i64 (x : Int), .int .i64 ny] 62)) (w.alloc (.cells #[.int .i64 11, .int .i64 i, .int .i64 e, .int .i64 gi, .int .i64 (x : Int), .int .i64 ny] 62))) := Lib.hid (Below.refl _ _)
  obtain ⟨w2, hW2⟩ : ∃ W, w.alloc (.cells #[.int .i64 11, .int .i64 i, .int .i64 e, .int .i64 gi, .int .i64 (x : Int), .int .i64 ny] 62) = W := ⟨_, rfl⟩
  rw [hW2] at HU HR0
  have HW2 := Lib.hid hW2
  clear hW2
  generalize sets.getD x 0 = sx at *
  generalize allV m.n = al at *
  generalize sets.length = sl at *
  generalize m.val.length = vl at *
  generalize m.rel.length = rl at *
  clear hT hT2 hr hM hz hTab hW hall t0 t1 t2 t3 t4 hx hxl hx0 hle
  go_enter Tryd.func67, Tryd.ntmps67
  go_wp2
  refine wp_region_wild [.pointer (some ⟨g, 0, none⟩), .pointer (some ⟨g, 0, none⟩), .pointer (some ⟨g, 0, none⟩), .agg #[.int .i64 m.n, .slice A1 vl c1, .slice A2 rl c2], .pointer (some ⟨w.heap.size, 3, none⟩), .int .i64 gi, undef, .pointer (some ⟨g, 0, none⟩), .pointer (some ⟨g, 0, none⟩), .pointer (some ⟨g, 4, none⟩), .slice (some ad) sl c4, .pointer (some ⟨w.heap.size, 4, none⟩), .int .i64 (x : Int), .pointer (some (ad.add x)), .int .u64 (sx : Int), .int .u64 (z : Int), .int .u64 (z : Int)] [158, 159, 160, 161, 162, 163, 164, 165, 166, 167, 168, 169, 170, 171, 172, 173, 4] [1, 2, 3, 4, 5, 6, 8, 9, 10, 11, 12, 13, 14, 15] [6] (vGrp G) (fun W => Below w2.heap.size w2 W) (fun W W' => Below W.heap.size W W') 17 214 rfl rfl rfl (by decide) (by decide) (by kernel_rfl) (by kernel_rfl) (by kernel_rfl) (by kernel_rfl) (fun W => Below.refl _ W) (fun W1 W2 W3 h1 h2 => h1.trans (h2.mono h1.size)) (fun W W' h h2 => h.trans (h2.mono h.size)) vGrp_up (HW2.out ▸ HR0.out.drew) (by kernel_rfl) [] rfl ?hop ?fin
  case hop =>
    refine (And.intro ?s1 (And.intro ?s2 (And.intro ?s3 (And.intro ?s4 (And.intro ?s5 (And.intro ?s6 (And.intro ?s8 (And.intro ?s9 (And.intro ?s10 (And.intro ?s11 (And.intro ?s12 (And.intro ?s13 (And.intro ?s14 (And.intro ?s15 trivial))))))))))))))
    case s1 =>
      refine And.intro (by rfl) (fun tm W hS hsz hfr hdep K hK => ?_)
      change tm.size = 214 at hsz
      have t158 : tm.getD 158 undef = .pointer (some ⟨g, 0, none⟩) := wildV_known (by rfl) (hdep 0 (by rfl) (by decide))
      clear hdep hfr
      go_simp
      exact hK _ W (Below.refl _ W) (wildV_of (by rfl))
    case s2 =>
      refine And.intro (by rfl) (fun tm W hS hsz hfr hdep K hK => ?_)
      change tm.size = 214 at hsz
      have t159 : tm.getD 159 undef = .pointer (some ⟨g, 0, none⟩) := wildV_known (by rfl) (hdep 1 (by rfl) (by decide))
      clear hdep hfr
      go_simp
      exact hK _ W (Below.refl _ W) (wildV_of (by rfl))
    case s3 =>
      refine And.intro (by rfl) (fun tm W hS hsz hfr hdep K hK => ?_)
      change tm.size = 214 at hsz
      have t160 : tm.getD 160 undef = .pointer (some ⟨g, 0, none⟩) := wildV_known (by rfl) (hdep 2 (by rfl) (by decide))
      obtain ⟨hB9, t0, t1, t2, t4, n1, n3, n4, hx⟩ := HU.out W hS
      clear hB9
      clear hdep hfr
      go_simp
      exact hK _ W (Below.refl _ W) (wildV_of (by rfl))
    case s4 =>
      refine And.intro (by rfl) (fun tm W hS hsz hfr hdep K hK => ?_)
      change tm.size = 214 at hsz
      have t3 : tm.getD 3 undef = .pointer (some ⟨w.heap.size, 0, none⟩) := hfr 3 (by rfl)
      clear hdep hfr
      go_simp
      exact hK _ W (Below.refl _ W) (wildV_of (by rfl))
    case s5 =>
      refine And.intro (by rfl) (fun tm W hS hsz hfr hdep K hK => ?_)
      change tm.size = 214 at hsz
      have t162 : tm.getD 162 undef = .pointer (some ⟨w.heap.size, 3, none⟩) := wildV_known (by rfl) (hdep 4 (by rfl) (by decide))
      obtain ⟨hB9, t0, t1, t2, t4, n1, n3, n4, hx⟩ := HU.out W hS
      clear hB9
      clear hdep hfr
      go_simp
      exact hK _ W (Below.refl _ W) (wildV_of (by rfl))
    case s6 =>
      refine And.intro (by rfl) (fun tm W hS hsz hfr hdep K hK => ?_)
      change tm.size = 214 at hsz
      have t161 : tm.getD 161 undef = .agg #[.int .i64 m.n, .slice A1 vl c1, .slice A2 rl c2] := wildV_known (by rfl) (hdep 3 (by rfl) (by decide))
      have t163 : tm.getD 163 undef = .int .i64 gi := wildV_known (by rfl) (hdep 5 (by rfl) (by decide))
      clear hdep hfr
      refine wp_call _ _ _ _ _ rfl rfl (by simp [Act.eval, t161, t163]) (by kernel_rfl) (HGR.out W (HU.out W hS).1) (fun e W9 h9 => ?_)
      obtain ⟨A9, c9, rfl, hr9, hb9⟩ := h9
      have h8 : vGrp G 6 (.slice A9 N c9) W9 := ⟨A9, c9, by rw [HGL.out], by rw [HGL.out]; exact hr9⟩
      exact ⟨_, rfl, hK _ W9 hb9 h8⟩
    case s8 =>
      refine And.intro (by rfl) (fun tm W hS hsz hfr hdep K hK => ?_)
      change tm.size = 214 at hsz
      have t165 : tm.getD 165 undef = .pointer (some ⟨g, 0, none⟩) := wildV_known (by rfl) (hdep 7 (by rfl) (by decide))
      clear hdep hfr
      go_simp
      exact hK _ W (Below.refl _ W) (wildV_of (by rfl))
    case s9 =>
      refine And.intro (by rfl) (fun tm W hS hsz hfr hdep K hK => ?_)
      change tm.size = 214 at hsz
      have t166 : tm.getD 166 undef = .pointer (some ⟨g, 0, none⟩) := wildV_known (by rfl) (hdep 8 (by rfl) (by decide))
      clear hdep hfr
      go_simp
      exact hK _ W (Below.refl _ W) (wildV_of (by rfl))
    case s10 =>
      refine And.intro (by rfl) (fun tm W hS hsz hfr hdep K hK => ?_)
      change tm.size = 214 at hsz
      have t167 : tm.getD 167 undef = .pointer (some ⟨g, 4, none⟩) := wildV_known (by rfl) (hdep 9 (by rfl) (by decide))
      obtain ⟨hB9, t0, t1, t2, t4, n1, n3, n4, hx⟩ := HU.out W hS
      clear hB9
      clear hdep hfr
      go_simp
      exact hK _ W (Below.refl _ W) (wildV_of (by rfl))
    case s11 =>
      refine And.intro (by rfl) (fun tm W hS hsz hfr hdep K hK => ?_)
      change tm.size = 214 at hsz
      have t3 : tm.getD 3 undef = .pointer (some ⟨w.heap.size, 0, none⟩) := hfr 3 (by rfl)
      clear hdep hfr
      go_simp
      exact hK _ W (Below.refl _ W) (wildV_of (by rfl))
    case s12 =>
      refine And.intro (by rfl) (fun tm W hS hsz hfr hdep K hK => ?_)
      change tm.size = 214 at hsz
      have t169 : tm.getD 169 undef = .pointer (some ⟨w.heap.size, 4, none⟩) := wildV_known (by rfl) (hdep 11 (by rfl) (by decide))
      obtain ⟨hB9, t0, t1, t2, t4, n1, n3, n4, hx⟩ := HU.out W hS
      clear hB9
      clear hdep hfr
      go_simp
      exact hK _ W (Below.refl _ W) (wildV_of (by rfl))
    case s13 =>
      refine And.intro (by rfl) (fun tm W hS hsz hfr hdep K hK => ?_)
      change tm.size = 214 at hsz
      have t168 : tm.getD 168 undef = .slice (some ad) sl c4 := wildV_known (by rfl) (hdep 10 (by rfl) (by decide))
      have t170 : tm.getD 170 undef = .int .i64 (x : Int) := wildV_known (by rfl) (hdep 12 (by rfl) (by decide))
      clear hdep hfr
      go_simp
      exact hK _ W (Below.refl _ W) (wildV_of (by rfl))
    case s14 =>
      refine And.intro (by rfl) (fun tm W hS hsz hfr hdep K hK => ?_)
      change tm.size = 214 at hsz
      have t171 : tm.getD 171 undef = .pointer (some (ad.add x)) := wildV_known (by rfl) (hdep 13 (by rfl) (by decide))
      obtain ⟨hB9, t0, t1, t2, t4, n1, n3, n4, hx⟩ := HU.out W hS
      clear hB9
      clear hdep hfr
      go_simp
      exact hK _ W (Below.refl _ W) (wildV_of (by rfl))
    case s15 =>
      refine And.intro (by rfl) (fun tm W hS hsz hfr hdep K hK => ?_)
      change tm.size = 214 at hsz
      have h6 : (vGrp G) 6 (tm.getD 164 undef) W := wildV_wild (by rfl) (hdep 6 (by rfl) (by decide))
      have t172 : tm.getD 172 undef = .int .u64 (sx : Int) := wildV_known (by rfl) (hdep 14 (by rfl) (by decide))
      clear hdep hfr
      obtain ⟨A3, c3, t164, hR3⟩ := h6
      rw [HGL.out] at t164 hR3
      refine wp_call _ _ _ _ _ rfl rfl (by simp [Act.eval, t164, t172]) (by kernel_rfl) (HBX.out W A3 c3 hR3) (fun e W9 h9 => ?_)
      obtain ⟨rfl, hb9⟩ := h9
      exact ⟨_, rfl, hK _ W9 hb9 (wildV_of (by rfl))⟩
  case fin =>
    intro f W hS hV
    have y6 : (vGrp G) 6 (f 6) W := hV 6 (by decide) (by rfl)
    clear hV
    have hvl : ((List.range 17).map (fun i => if [6].contains i then f i else ([.pointer (some ⟨g, 0, none⟩), .pointer (some ⟨g, 0, none⟩), .pointer (some ⟨g, 0, none⟩), .agg #[.int .i64 m.n, .slice A1 vl c1, .slice A2 rl c2], .pointer (some ⟨w.heap.size, 3, none⟩), .int .i64 gi, undef, .pointer (some ⟨g, 0, none⟩), .pointer (some ⟨g, 0, none⟩), .pointer (some ⟨g, 4, none⟩), .slice (some ad) sl c4, .pointer (some ⟨w.heap.size, 4, none⟩), .int .i64 (x : Int), .pointer (some (ad.add x)), .int .u64 (sx : Int), .int .u64 (z : Int), .int .u64 (z : Int)] : List Value).getD i undef)) = [.pointer (some ⟨g, 0, none⟩), .pointer (some ⟨g, 0, none⟩), .pointer (some ⟨g, 0, none⟩), .agg #[.int .i64 m.n, .slice A1 vl c1, .slice A2 rl c2], .pointer (some ⟨w.heap.size, 3, none⟩), .int .i64 gi, f 6, .pointer (some ⟨g, 0, none⟩), .pointer (some ⟨g, 0, none⟩), .pointer (some ⟨g, 4, none⟩), .slice (some ad) sl c4, .pointer (some ⟨w.heap.size, 4, none⟩), .int .i64 (x : Int), .pointer (some (ad.add x)), .int .u64 (sx : Int), .int .u64 (z : Int), .int .u64 (z : Int)] := by rfl
    rw [hvl]
    clear hvl
    have HS := Lib.hid hS
    clear hS y6
    generalize f 6 = fv at *
    simp only [fillD]
    go_simp
    go_wp2
    go_ret
    exact ⟨rfl, (HU.out _ HS.out).1⟩
set_option maxHeartbeats 8000000 in
theorem pSet12_any (i e gi nx ny : Int) (hgi : 1 ≤ gi ∧ gi < 2 ^ m.rel.length) (hx0 : 0 ≤ nx ∧ nx < (sets.length : Int)) : Calls Tryd.prog 67 #[.pointer (some ⟨g, 0, none⟩), .agg #[.int .i64 12, .int .i64 i, .int .i64 e, .int .i64 gi, .int .i64 nx, .int .i64 ny]] w fun e' w' => e' = .returned (.int .u64 ((setN m ⟨12, i, e, gi, nx, ny⟩ (sets.getD nx.toNat 0) (sets.getD ny.toNat 0) : Nat) : Int)) ∧ Below w.heap.size w w' := by
  have hUse : _ ∧ _ ∧ _ ∧ _ := ⟨hM, hz, hTab, hW⟩
  clear hUse
  have hg := hT.lt
  have HB : Hid (Below w.heap.size w (w.alloc (.cells #[.int .i64 12, .int .i64 i, .int .i64 e, .int .i64 gi, .int .i64 nx, .int .i64 ny] 62))) := Lib.hid ((Below.refl _ w).alloc (Nat.le_refl _) _)
  have hT2 := hT.below HB.out
  have hall : allV m.n < 18446744073709551616 := allV_lt _
  obtain ⟨t0, t1, t2, t3, ⟨A4, c4, t4, hr⟩, _⟩ := hT2.cells
  obtain ⟨x, rfl⟩ : ∃ x : Nat, nx = (x : Int) := ⟨nx.toNat, by omega⟩
  obtain ⟨ad, rfl, hxl, hx⟩ := hr.word_k (k := x) (by omega)
  have hsx := words_getD hW x
  rw [show ((x : Int)).toNat = x from rfl]
  have hlen : (x : Int) < (sets.length : Int) := by omega
  have ok0 := chkM_ok hz
  obtain ⟨N, hN⟩ : ∃ N : Nat, m.n = (N : Int) := ⟨m.n.toNat, ok0.num⟩
  have ok : OkM N m := by have h := ok0; rw [hN] at h; simpa using h
  clear ok0
  have hle := ok.le
  have hg64 : -9223372036854775808 ≤ gi ∧ gi < 9223372036854775808 := by
    have h2 : (2 : Int) ^ m.rel.length ≤ 2 ^ 4 := by
      have e : ((2 : Int) ^ m.rel.length) = ((2 ^ m.rel.length : Nat) : Int) := by simp
      rw [e]
      exact_mod_cast Nat.pow_le_pow_right (by decide) ok.agents
    have := hgi.1
    have := hgi.2
    omega
  have hsh : Sh N (meetL m gi) := (grp_sh hz ok hgi).2
  have HGL := Lib.hid hsh.1
  have HGR := Lib.hid (fun W (hb : Below w.heap.size w W) => pMeet_any m _ gi W (hM.below hb hb.size) hg64)
  rw [hsh.1] at HGR
  have HBX := Lib.hid (fun W A c (h : Reads W W.heap.size 1 A N (us (meetL m gi))) => box_any (meetL m gi) (sets.getD x 0) A N c W h (sh_words hle hsh) (by unfold maxLen; omega) hsx)
  have HV : Hid (setN m ⟨12, i, e, gi, (x : Int), ny⟩ (sets.getD x 0) (sets.getD ny.toNat 0) = whV (pBox (sets.getD x 0)) (meetL m gi)) := Lib.hid rfl
  rw [HV.out]
  clear HV
  clear hsh
  generalize (meetL m gi) = G at *
  generalize whV (pBox (sets.getD x 0)) G = z at *
  clear hg64 ok hN hgi
  have HU : Hid (∀ W, Below (w.alloc (.cells #[.int .i64 12, .int .i64 i, .int .i64 e, .int .i64 gi, .int .i64 (x : Int), .int .i64 ny] 62)).heap.size (w.alloc (.cells #[.int .i64 12, .int .i64 i, .int .i64 e, .int .i64 gi, .int .i64 (x : Int), .int .i64 ny] 62)) W → Below w.heap.size w W ∧ W.cell? ⟨g, 0, none⟩ = some (.int .i64 m.n) ∧ W.cell? ⟨g, 1, none⟩ = some (.slice A1 m.val.length c1) ∧ W.cell? ⟨g, 2, none⟩ = some (.slice A2 m.rel.length c2) ∧ W.cell? ⟨g, 4, none⟩ = some (.slice (some ad) sets.length c4) ∧ W.cell? ⟨w.heap.size, 1, none⟩ = some (.int .i64 i) ∧ W.cell? ⟨w.heap.size, 3, none⟩ = some (.int .i64 gi) ∧ W.cell? ⟨w.heap.size, 4, none⟩ = some (.int .i64 (x : Int)) ∧ W.cell? (ad.add x) = some (.int .u64 ((sets.getD x 0 : Nat) : Int))) := Lib.hid (fun W hb => by
    have kb := (hb.block w.heap.size (by simp)).trans (heap_alloc_new w (.cells #[.int .i64 12, .int .i64 i, .int .i64 e, .int .i64 gi, .int .i64 (x : Int), .int .i64 ny] 62))
    exact ⟨HB.out.trans (hb.mono HB.out.size), (hb.cell (by simp; omega)).trans t0, (hb.cell (by simp; omega)).trans t1, (hb.cell (by simp; omega)).trans t2, (hb.cell (by simp; omega)).trans t4, (Lib.cell_of_heap kb 1).trans rfl, (Lib.cell_of_heap kb 3).trans rfl, (Lib.cell_of_heap kb 4).trans rfl, (hb.cell (by rw [block_of_add]; exact hxl)).trans hx⟩)
  have HR0 : Hid (Below (w.alloc (.cells #[.int .i64 12, .int .i64 i, .int .i64 e, .int .i64 gi, .int .i64 (x : Int), .int .i64 ny] 62)).heap.size (w.alloc (.cells #[.int .i64 12, .int .i64 i, .int .i64 e, .int .i64 gi, .int .i64 (x : Int), .int .i64 ny] 62)) (w.alloc (.cells #[.int .i64 12, .int .i64 i, .int .i64 e, .int .i64 gi, .int .i64 (x : Int), .int .i64 ny] 62))) := Lib.hid (Below.refl _ _)
  obtain ⟨w2, hW2⟩ : ∃ W, w.alloc (.cells #[.int .i64 12, .int .i64 i, .int .i64 e, .int .i64 gi, .int .i64 (x : Int), .int .i64 ny] 62) = W := ⟨_, rfl⟩
  rw [hW2] at HU HR0
  have HW2 := Lib.hid hW2
  clear hW2
  generalize sets.getD x 0 = sx at *
  generalize allV m.n = al at *
  generalize sets.length = sl at *
  generalize m.val.length = vl at *
  generalize m.rel.length = rl at *
  clear hT hT2 hr hM hz hTab hW hall t0 t1 t2 t3 t4 hx hxl hx0 hle
  go_enter Tryd.func67, Tryd.ntmps67
  go_wp2
  refine wp_region_wild [.pointer (some ⟨g, 0, none⟩), .pointer (some ⟨g, 0, none⟩), .pointer (some ⟨g, 0, none⟩), .agg #[.int .i64 m.n, .slice A1 vl c1, .slice A2 rl c2], .pointer (some ⟨w.heap.size, 3, none⟩), .int .i64 gi, undef, .pointer (some ⟨g, 0, none⟩), .pointer (some ⟨g, 0, none⟩), .pointer (some ⟨g, 4, none⟩), .slice (some ad) sl c4, .pointer (some ⟨w.heap.size, 4, none⟩), .int .i64 (x : Int), .pointer (some (ad.add x)), .int .u64 (sx : Int), .int .u64 (z : Int), .int .u64 (z : Int)] [176, 177, 178, 179, 180, 181, 182, 183, 184, 185, 186, 187, 188, 189, 190, 191, 4] [1, 2, 3, 4, 5, 6, 8, 9, 10, 11, 12, 13, 14, 15] [6] (vGrp G) (fun W => Below w2.heap.size w2 W) (fun W W' => Below W.heap.size W W') 17 214 rfl rfl rfl (by decide) (by decide) (by kernel_rfl) (by kernel_rfl) (by kernel_rfl) (by kernel_rfl) (fun W => Below.refl _ W) (fun W1 W2 W3 h1 h2 => h1.trans (h2.mono h1.size)) (fun W W' h h2 => h.trans (h2.mono h.size)) vGrp_up (HW2.out ▸ HR0.out.drew) (by kernel_rfl) [] rfl ?hop ?fin
  case hop =>
    refine (And.intro ?s1 (And.intro ?s2 (And.intro ?s3 (And.intro ?s4 (And.intro ?s5 (And.intro ?s6 (And.intro ?s8 (And.intro ?s9 (And.intro ?s10 (And.intro ?s11 (And.intro ?s12 (And.intro ?s13 (And.intro ?s14 (And.intro ?s15 trivial))))))))))))))
    case s1 =>
      refine And.intro (by rfl) (fun tm W hS hsz hfr hdep K hK => ?_)
      change tm.size = 214 at hsz
      have t176 : tm.getD 176 undef = .pointer (some ⟨g, 0, none⟩) := wildV_known (by rfl) (hdep 0 (by rfl) (by decide))
      clear hdep hfr
      go_simp
      exact hK _ W (Below.refl _ W) (wildV_of (by rfl))
    case s2 =>
      refine And.intro (by rfl) (fun tm W hS hsz hfr hdep K hK => ?_)
      change tm.size = 214 at hsz
      have t177 : tm.getD 177 undef = .pointer (some ⟨g, 0, none⟩) := wildV_known (by rfl) (hdep 1 (by rfl) (by decide))
      clear hdep hfr
      go_simp
      exact hK _ W (Below.refl _ W) (wildV_of (by rfl))
    case s3 =>
      refine And.intro (by rfl) (fun tm W hS hsz hfr hdep K hK => ?_)
      change tm.size = 214 at hsz
      have t178 : tm.getD 178 undef = .pointer (some ⟨g, 0, none⟩) := wildV_known (by rfl) (hdep 2 (by rfl) (by decide))
      obtain ⟨hB9, t0, t1, t2, t4, n1, n3, n4, hx⟩ := HU.out W hS
      clear hB9
      clear hdep hfr
      go_simp
      exact hK _ W (Below.refl _ W) (wildV_of (by rfl))
    case s4 =>
      refine And.intro (by rfl) (fun tm W hS hsz hfr hdep K hK => ?_)
      change tm.size = 214 at hsz
      have t3 : tm.getD 3 undef = .pointer (some ⟨w.heap.size, 0, none⟩) := hfr 3 (by rfl)
      clear hdep hfr
      go_simp
      exact hK _ W (Below.refl _ W) (wildV_of (by rfl))
    case s5 =>
      refine And.intro (by rfl) (fun tm W hS hsz hfr hdep K hK => ?_)
      change tm.size = 214 at hsz
      have t180 : tm.getD 180 undef = .pointer (some ⟨w.heap.size, 3, none⟩) := wildV_known (by rfl) (hdep 4 (by rfl) (by decide))
      obtain ⟨hB9, t0, t1, t2, t4, n1, n3, n4, hx⟩ := HU.out W hS
      clear hB9
      clear hdep hfr
      go_simp
      exact hK _ W (Below.refl _ W) (wildV_of (by rfl))
    case s6 =>
      refine And.intro (by rfl) (fun tm W hS hsz hfr hdep K hK => ?_)
      change tm.size = 214 at hsz
      have t179 : tm.getD 179 undef = .agg #[.int .i64 m.n, .slice A1 vl c1, .slice A2 rl c2] := wildV_known (by rfl) (hdep 3 (by rfl) (by decide))
      have t181 : tm.getD 181 undef = .int .i64 gi := wildV_known (by rfl) (hdep 5 (by rfl) (by decide))
      clear hdep hfr
      refine wp_call _ _ _ _ _ rfl rfl (by simp [Act.eval, t179, t181]) (by kernel_rfl) (HGR.out W (HU.out W hS).1) (fun e W9 h9 => ?_)
      obtain ⟨A9, c9, rfl, hr9, hb9⟩ := h9
      have h8 : vGrp G 6 (.slice A9 N c9) W9 := ⟨A9, c9, by rw [HGL.out], by rw [HGL.out]; exact hr9⟩
      exact ⟨_, rfl, hK _ W9 hb9 h8⟩
    case s8 =>
      refine And.intro (by rfl) (fun tm W hS hsz hfr hdep K hK => ?_)
      change tm.size = 214 at hsz
      have t183 : tm.getD 183 undef = .pointer (some ⟨g, 0, none⟩) := wildV_known (by rfl) (hdep 7 (by rfl) (by decide))
      clear hdep hfr
      go_simp
      exact hK _ W (Below.refl _ W) (wildV_of (by rfl))
    case s9 =>
      refine And.intro (by rfl) (fun tm W hS hsz hfr hdep K hK => ?_)
      change tm.size = 214 at hsz
      have t184 : tm.getD 184 undef = .pointer (some ⟨g, 0, none⟩) := wildV_known (by rfl) (hdep 8 (by rfl) (by decide))
      clear hdep hfr
      go_simp
      exact hK _ W (Below.refl _ W) (wildV_of (by rfl))
    case s10 =>
      refine And.intro (by rfl) (fun tm W hS hsz hfr hdep K hK => ?_)
      change tm.size = 214 at hsz
      have t185 : tm.getD 185 undef = .pointer (some ⟨g, 4, none⟩) := wildV_known (by rfl) (hdep 9 (by rfl) (by decide))
      obtain ⟨hB9, t0, t1, t2, t4, n1, n3, n4, hx⟩ := HU.out W hS
      clear hB9
      clear hdep hfr
      go_simp
      exact hK _ W (Below.refl _ W) (wildV_of (by rfl))
    case s11 =>
      refine And.intro (by rfl) (fun tm W hS hsz hfr hdep K hK => ?_)
      change tm.size = 214 at hsz
      have t3 : tm.getD 3 undef = .pointer (some ⟨w.heap.size, 0, none⟩) := hfr 3 (by rfl)
      clear hdep hfr
      go_simp
      exact hK _ W (Below.refl _ W) (wildV_of (by rfl))
    case s12 =>
      refine And.intro (by rfl) (fun tm W hS hsz hfr hdep K hK => ?_)
      change tm.size = 214 at hsz
      have t187 : tm.getD 187 undef = .pointer (some ⟨w.heap.size, 4, none⟩) := wildV_known (by rfl) (hdep 11 (by rfl) (by decide))
      obtain ⟨hB9, t0, t1, t2, t4, n1, n3, n4, hx⟩ := HU.out W hS
      clear hB9
      clear hdep hfr
      go_simp
      exact hK _ W (Below.refl _ W) (wildV_of (by rfl))
    case s13 =>
      refine And.intro (by rfl) (fun tm W hS hsz hfr hdep K hK => ?_)
      change tm.size = 214 at hsz
      have t186 : tm.getD 186 undef = .slice (some ad) sl c4 := wildV_known (by rfl) (hdep 10 (by rfl) (by decide))
      have t188 : tm.getD 188 undef = .int .i64 (x : Int) := wildV_known (by rfl) (hdep 12 (by rfl) (by decide))
      clear hdep hfr
      go_simp
      exact hK _ W (Below.refl _ W) (wildV_of (by rfl))
    case s14 =>
      refine And.intro (by rfl) (fun tm W hS hsz hfr hdep K hK => ?_)
      change tm.size = 214 at hsz
      have t189 : tm.getD 189 undef = .pointer (some (ad.add x)) := wildV_known (by rfl) (hdep 13 (by rfl) (by decide))
      obtain ⟨hB9, t0, t1, t2, t4, n1, n3, n4, hx⟩ := HU.out W hS
      clear hB9
      clear hdep hfr
      go_simp
      exact hK _ W (Below.refl _ W) (wildV_of (by rfl))
    case s15 =>
      refine And.intro (by rfl) (fun tm W hS hsz hfr hdep K hK => ?_)
      change tm.size = 214 at hsz
      have h6 : (vGrp G) 6 (tm.getD 182 undef) W := wildV_wild (by rfl) (hdep 6 (by rfl) (by decide))
      have t190 : tm.getD 190 undef = .int .u64 (sx : Int) := wildV_known (by rfl) (hdep 14 (by rfl) (by decide))
      clear hdep hfr
      obtain ⟨A3, c3, t182, hR3⟩ := h6
      rw [HGL.out] at t182 hR3
      refine wp_call _ _ _ _ _ rfl rfl (by simp [Act.eval, t182, t190]) (by kernel_rfl) (HBX.out W A3 c3 hR3) (fun e W9 h9 => ?_)
      obtain ⟨rfl, hb9⟩ := h9
      exact ⟨_, rfl, hK _ W9 hb9 (wildV_of (by rfl))⟩
  case fin =>
    intro f W hS hV
    have y6 : (vGrp G) 6 (f 6) W := hV 6 (by decide) (by rfl)
    clear hV
    have hvl : ((List.range 17).map (fun i => if [6].contains i then f i else ([.pointer (some ⟨g, 0, none⟩), .pointer (some ⟨g, 0, none⟩), .pointer (some ⟨g, 0, none⟩), .agg #[.int .i64 m.n, .slice A1 vl c1, .slice A2 rl c2], .pointer (some ⟨w.heap.size, 3, none⟩), .int .i64 gi, undef, .pointer (some ⟨g, 0, none⟩), .pointer (some ⟨g, 0, none⟩), .pointer (some ⟨g, 4, none⟩), .slice (some ad) sl c4, .pointer (some ⟨w.heap.size, 4, none⟩), .int .i64 (x : Int), .pointer (some (ad.add x)), .int .u64 (sx : Int), .int .u64 (z : Int), .int .u64 (z : Int)] : List Value).getD i undef)) = [.pointer (some ⟨g, 0, none⟩), .pointer (some ⟨g, 0, none⟩), .pointer (some ⟨g, 0, none⟩), .agg #[.int .i64 m.n, .slice A1 vl c1, .slice A2 rl c2], .pointer (some ⟨w.heap.size, 3, none⟩), .int .i64 gi, f 6, .pointer (some ⟨g, 0, none⟩), .pointer (some ⟨g, 0, none⟩), .pointer (some ⟨g, 4, none⟩), .slice (some ad) sl c4, .pointer (some ⟨w.heap.size, 4, none⟩), .int .i64 (x : Int), .pointer (some (ad.add x)), .int .u64 (sx : Int), .int .u64 (z : Int), .int .u64 (z : Int)] := by rfl
    rw [hvl]
    clear hvl
    have HS := Lib.hid hS
    clear hS y6
    generalize f 6 = fv at *
    simp only [fillD]
    go_simp
    go_wp2
    go_ret
    exact ⟨rfl, (HU.out _ HS.out).1⟩
set_option maxHeartbeats 8000000 in
theorem pSet13_any (i e gi nx ny : Int) (hgi : 1 ≤ gi ∧ gi < 2 ^ m.rel.length) (hx0 : 0 ≤ nx ∧ nx < (sets.length : Int)) (hy0 : 0 ≤ ny ∧ ny < (sets.length : Int)) : Calls Tryd.prog 67 #[.pointer (some ⟨g, 0, none⟩), .agg #[.int .i64 13, .int .i64 i, .int .i64 e, .int .i64 gi, .int .i64 nx, .int .i64 ny]] w fun e' w' => e' = .returned (.int .u64 ((setN m ⟨13, i, e, gi, nx, ny⟩ (sets.getD nx.toNat 0) (sets.getD ny.toNat 0) : Nat) : Int)) ∧ Below w.heap.size w w' := by
  have hUse : _ ∧ _ ∧ _ ∧ _ := ⟨hM, hz, hTab, hW⟩
  clear hUse
  have hg := hT.lt
  have HB : Hid (Below w.heap.size w (w.alloc (.cells #[.int .i64 13, .int .i64 i, .int .i64 e, .int .i64 gi, .int .i64 nx, .int .i64 ny] 62))) := Lib.hid ((Below.refl _ w).alloc (Nat.le_refl _) _)
  have hT2 := hT.below HB.out
  have hall : allV m.n < 18446744073709551616 := allV_lt _
  obtain ⟨t0, t1, t2, t3, ⟨A4, c4, t4, hr⟩, _⟩ := hT2.cells
  obtain ⟨x, rfl⟩ : ∃ x : Nat, nx = (x : Int) := ⟨nx.toNat, by omega⟩
  obtain ⟨ad, rfl, hxl, hx⟩ := hr.word_k (k := x) (by omega)
  have hsx := words_getD hW x
  rw [show ((x : Int)).toNat = x from rfl]
  have hlen : (x : Int) < (sets.length : Int) := by omega
  obtain ⟨y, rfl⟩ : ∃ y : Nat, ny = (y : Int) := ⟨ny.toNat, by omega⟩
  obtain ⟨ad2, e2, hyl, hy⟩ := hr.word_k (k := y) (by omega)
  injection e2 with e2
  subst e2
  have hsy := words_getD hW y
  rw [show ((y : Int)).toNat = y from rfl]
  have hlen2 : (y : Int) < (sets.length : Int) := by omega
  have ok0 := chkM_ok hz
  obtain ⟨N, hN⟩ : ∃ N : Nat, m.n = (N : Int) := ⟨m.n.toNat, ok0.num⟩
  have ok : OkM N m := by have h := ok0; rw [hN] at h; simpa using h
  clear ok0
  have hle := ok.le
  have hg64 : -9223372036854775808 ≤ gi ∧ gi < 9223372036854775808 := by
    have h2 : (2 : Int) ^ m.rel.length ≤ 2 ^ 4 := by
      have e : ((2 : Int) ^ m.rel.length) = ((2 ^ m.rel.length : Nat) : Int) := by simp
      rw [e]
      exact_mod_cast Nat.pow_le_pow_right (by decide) ok.agents
    have := hgi.1
    have := hgi.2
    omega
  have HBX := Lib.hid (fun W (hb : Below w.heap.size w W) => ckCommon_any m A1 c1 A2 c2 sets has g W (hT.below hb) (hM.below hb hb.size) hz gi hgi (sets.getD x 0) (sets.getD y 0) hsx hsy (hTab.below hb))
  have HV : Hid (setN m ⟨13, i, e, gi, (x : Int), (y : Int)⟩ (sets.getD x 0) (sets.getD y 0) = comV m gi (sets.getD x 0) (sets.getD y 0)) := Lib.hid rfl
  rw [HV.out]
  clear HV
  generalize comV m gi (sets.getD x 0) (sets.getD y 0) = z at *
  clear hg64 ok hN hgi
  have HU : Hid (∀ W, Below (w.alloc (.cells #[.int .i64 13, .int .i64 i, .int .i64 e, .int .i64 gi, .int .i64 (x : Int), .int .i64 (y : Int)] 62)).heap.size (w.alloc (.cells #[.int .i64 13, .int .i64 i, .int .i64 e, .int .i64 gi, .int .i64 (x : Int), .int .i64 (y : Int)] 62)) W → Below w.heap.size w W ∧ W.cell? ⟨g, 0, none⟩ = some (.int .i64 m.n) ∧ W.cell? ⟨g, 1, none⟩ = some (.slice A1 m.val.length c1) ∧ W.cell? ⟨g, 2, none⟩ = some (.slice A2 m.rel.length c2) ∧ W.cell? ⟨g, 4, none⟩ = some (.slice (some ad) sets.length c4) ∧ W.cell? ⟨w.heap.size, 1, none⟩ = some (.int .i64 i) ∧ W.cell? ⟨w.heap.size, 3, none⟩ = some (.int .i64 gi) ∧ W.cell? ⟨w.heap.size, 4, none⟩ = some (.int .i64 (x : Int)) ∧ W.cell? (ad.add x) = some (.int .u64 ((sets.getD x 0 : Nat) : Int)) ∧ W.cell? ⟨w.heap.size, 5, none⟩ = some (.int .i64 (y : Int)) ∧ W.cell? (ad.add y) = some (.int .u64 ((sets.getD y 0 : Nat) : Int))) := Lib.hid (fun W hb => by
    have kb := (hb.block w.heap.size (by simp)).trans (heap_alloc_new w (.cells #[.int .i64 13, .int .i64 i, .int .i64 e, .int .i64 gi, .int .i64 (x : Int), .int .i64 (y : Int)] 62))
    exact ⟨HB.out.trans (hb.mono HB.out.size), (hb.cell (by simp; omega)).trans t0, (hb.cell (by simp; omega)).trans t1, (hb.cell (by simp; omega)).trans t2, (hb.cell (by simp; omega)).trans t4, (Lib.cell_of_heap kb 1).trans rfl, (Lib.cell_of_heap kb 3).trans rfl, (Lib.cell_of_heap kb 4).trans rfl, (hb.cell (by rw [block_of_add]; exact hxl)).trans hx, (Lib.cell_of_heap kb 5).trans rfl, (hb.cell (by rw [block_of_add]; exact hyl)).trans hy⟩)
  have HR0 : Hid (Below (w.alloc (.cells #[.int .i64 13, .int .i64 i, .int .i64 e, .int .i64 gi, .int .i64 (x : Int), .int .i64 (y : Int)] 62)).heap.size (w.alloc (.cells #[.int .i64 13, .int .i64 i, .int .i64 e, .int .i64 gi, .int .i64 (x : Int), .int .i64 (y : Int)] 62)) (w.alloc (.cells #[.int .i64 13, .int .i64 i, .int .i64 e, .int .i64 gi, .int .i64 (x : Int), .int .i64 (y : Int)] 62))) := Lib.hid (Below.refl _ _)
  obtain ⟨w2, hW2⟩ : ∃ W, w.alloc (.cells #[.int .i64 13, .int .i64 i, .int .i64 e, .int .i64 gi, .int .i64 (x : Int), .int .i64 (y : Int)] 62) = W := ⟨_, rfl⟩
  rw [hW2] at HU HR0
  have HW2 := Lib.hid hW2
  clear hW2
  generalize sets.getD x 0 = sx at *
  generalize sets.getD y 0 = sy at *
  generalize allV m.n = al at *
  generalize sets.length = sl at *
  generalize m.val.length = vl at *
  generalize m.rel.length = rl at *
  clear hT hT2 hr hM hz hTab hW hall t0 t1 t2 t3 t4 hx hxl hx0 hy hyl hy0 hle
  go_enter Tryd.func67, Tryd.ntmps67
  go_wp2
  refine wp_region_mix [.pointer (some ⟨g, 0, none⟩), .pointer (some ⟨w.heap.size, 3, none⟩), .int .i64 gi, .pointer (some ⟨g, 0, none⟩), .pointer (some ⟨g, 0, none⟩), .pointer (some ⟨g, 4, none⟩), .slice (some ad) sl c4, .pointer (some ⟨w.heap.size, 4, none⟩), .int .i64 (x : Int), .pointer (some (ad.add x)), .int .u64 (sx : Int), .pointer (some ⟨g, 0, none⟩), .pointer (some ⟨g, 0, none⟩), .pointer (some ⟨g, 4, none⟩), .slice (some ad) sl c4, .pointer (some ⟨w.heap.size, 5, none⟩), .int .i64 (y : Int), .pointer (some (ad.add y)), .int .u64 (sy : Int), .int .u64 (z : Int), .int .u64 (z : Int)] [194, 195, 196, 197, 198, 199, 200, 201, 202, 203, 204, 205, 206, 207, 208, 209, 210, 211, 212, 213, 4] [1, 2, 4, 5, 6, 7, 8, 9, 10, 12, 13, 14, 15, 16, 17, 18, 19] (fun W => Below w2.heap.size w2 W) (fun W W' => Below W.heap.size W W') 21 214 rfl rfl rfl rfl (by decide) (by decide) (by kernel_rfl) (by kernel_rfl) (by kernel_rfl) (fun W => Below.refl _ W) (fun W1 W2 W3 h1 h2 => h1.trans (h2.mono h1.size)) (fun W W' h h2 => h.trans (h2.mono h.size)) (HW2.out ▸ HR0.out.drew) (by kernel_rfl) [] rfl ?hop ?fin
  case hop =>
    refine (And.intro ?s1 (And.intro ?s2 (And.intro ?s4 (And.intro ?s5 (And.intro ?s6 (And.intro ?s7 (And.intro ?s8 (And.intro ?s9 (And.intro ?s10 (And.intro ?s12 (And.intro ?s13 (And.intro ?s14 (And.intro ?s15 (And.intro ?s16 (And.intro ?s17 (And.intro ?s18 (And.intro ?s19 trivial)))))))))))))))))
    case s1 =>
      refine And.intro (by rfl) (fun tm W hS hsz hfr hdep K hK => ?_)
      change tm.size = 214 at hsz
      have t3 : tm.getD 3 undef = .pointer (some ⟨w.heap.size, 0, none⟩) := hfr 3 (by rfl)
      clear hdep hfr
      go_simp
      exact hK W (Below.refl _ W)
    case s2 =>
      refine And.intro (by rfl) (fun tm W hS hsz hfr hdep K hK => ?_)
      change tm.size = 214 at hsz
      have t195 : tm.getD 195 undef = .pointer (some ⟨w.heap.size, 3, none⟩) := hdep 1 (by rfl) (by decide)
      obtain ⟨hB9, t0, t1, t2, t4, n1, n3, n4, hx, n5, hy⟩ := HU.out W hS
      clear hB9
      clear hdep hfr
      go_simp
      exact hK W (Below.refl _ W)
    case s4 =>
      refine And.intro (by rfl) (fun tm W hS hsz hfr hdep K hK => ?_)
      change tm.size = 214 at hsz
      have t197 : tm.getD 197 undef = .pointer (some ⟨g, 0, none⟩) := hdep 3 (by rfl) (by decide)
      clear hdep hfr
      go_simp
      exact hK W (Below.refl _ W)
    case s5 =>
      refine And.intro (by rfl) (fun tm W hS hsz hfr hdep K hK => ?_)
      change tm.size = 214 at hsz
      have t198 : tm.getD 198 undef = .pointer (some ⟨g, 0, none⟩) := hdep 4 (by rfl) (by decide)
      clear hdep hfr
      go_simp
      exact hK W (Below.refl _ W)
    case s6 =>
      refine And.intro (by rfl) (fun tm W hS hsz hfr hdep K hK => ?_)
      change tm.size = 214 at hsz
      have t199 : tm.getD 199 undef = .pointer (some ⟨g, 4, none⟩) := hdep 5 (by rfl) (by decide)
      obtain ⟨hB9, t0, t1, t2, t4, n1, n3, n4, hx, n5, hy⟩ := HU.out W hS
      clear hB9
      clear hdep hfr
      go_simp
      exact hK W (Below.refl _ W)
    case s7 =>
      refine And.intro (by rfl) (fun tm W hS hsz hfr hdep K hK => ?_)
      change tm.size = 214 at hsz
      have t3 : tm.getD 3 undef = .pointer (some ⟨w.heap.size, 0, none⟩) := hfr 3 (by rfl)
      clear hdep hfr
      go_simp
      exact hK W (Below.refl _ W)
    case s8 =>
      refine And.intro (by rfl) (fun tm W hS hsz hfr hdep K hK => ?_)
      change tm.size = 214 at hsz
      have t201 : tm.getD 201 undef = .pointer (some ⟨w.heap.size, 4, none⟩) := hdep 7 (by rfl) (by decide)
      obtain ⟨hB9, t0, t1, t2, t4, n1, n3, n4, hx, n5, hy⟩ := HU.out W hS
      clear hB9
      clear hdep hfr
      go_simp
      exact hK W (Below.refl _ W)
    case s9 =>
      refine And.intro (by rfl) (fun tm W hS hsz hfr hdep K hK => ?_)
      change tm.size = 214 at hsz
      have t200 : tm.getD 200 undef = .slice (some ad) sl c4 := hdep 6 (by rfl) (by decide)
      have t202 : tm.getD 202 undef = .int .i64 (x : Int) := hdep 8 (by rfl) (by decide)
      clear hdep hfr
      go_simp
      exact hK W (Below.refl _ W)
    case s10 =>
      refine And.intro (by rfl) (fun tm W hS hsz hfr hdep K hK => ?_)
      change tm.size = 214 at hsz
      have t203 : tm.getD 203 undef = .pointer (some (ad.add x)) := hdep 9 (by rfl) (by decide)
      obtain ⟨hB9, t0, t1, t2, t4, n1, n3, n4, hx, n5, hy⟩ := HU.out W hS
      clear hB9
      clear hdep hfr
      go_simp
      exact hK W (Below.refl _ W)
    case s12 =>
      refine And.intro (by rfl) (fun tm W hS hsz hfr hdep K hK => ?_)
      change tm.size = 214 at hsz
      have t205 : tm.getD 205 undef = .pointer (some ⟨g, 0, none⟩) := hdep 11 (by rfl) (by decide)
      clear hdep hfr
      go_simp
      exact hK W (Below.refl _ W)
    case s13 =>
      refine And.intro (by rfl) (fun tm W hS hsz hfr hdep K hK => ?_)
      change tm.size = 214 at hsz
      have t206 : tm.getD 206 undef = .pointer (some ⟨g, 0, none⟩) := hdep 12 (by rfl) (by decide)
      clear hdep hfr
      go_simp
      exact hK W (Below.refl _ W)
    case s14 =>
      refine And.intro (by rfl) (fun tm W hS hsz hfr hdep K hK => ?_)
      change tm.size = 214 at hsz
      have t207 : tm.getD 207 undef = .pointer (some ⟨g, 4, none⟩) := hdep 13 (by rfl) (by decide)
      obtain ⟨hB9, t0, t1, t2, t4, n1, n3, n4, hx, n5, hy⟩ := HU.out W hS
      clear hB9
      clear hdep hfr
      go_simp
      exact hK W (Below.refl _ W)
    case s15 =>
      refine And.intro (by rfl) (fun tm W hS hsz hfr hdep K hK => ?_)
      change tm.size = 214 at hsz
      have t3 : tm.getD 3 undef = .pointer (some ⟨w.heap.size, 0, none⟩) := hfr 3 (by rfl)
      clear hdep hfr
      go_simp
      exact hK W (Below.refl _ W)
    case s16 =>
      refine And.intro (by rfl) (fun tm W hS hsz hfr hdep K hK => ?_)
      change tm.size = 214 at hsz
      have t209 : tm.getD 209 undef = .pointer (some ⟨w.heap.size, 5, none⟩) := hdep 15 (by rfl) (by decide)
      obtain ⟨hB9, t0, t1, t2, t4, n1, n3, n4, hx, n5, hy⟩ := HU.out W hS
      clear hB9
      clear hdep hfr
      go_simp
      exact hK W (Below.refl _ W)
    case s17 =>
      refine And.intro (by rfl) (fun tm W hS hsz hfr hdep K hK => ?_)
      change tm.size = 214 at hsz
      have t208 : tm.getD 208 undef = .slice (some ad) sl c4 := hdep 14 (by rfl) (by decide)
      have t210 : tm.getD 210 undef = .int .i64 (y : Int) := hdep 16 (by rfl) (by decide)
      clear hdep hfr
      go_simp
      exact hK W (Below.refl _ W)
    case s18 =>
      refine And.intro (by rfl) (fun tm W hS hsz hfr hdep K hK => ?_)
      change tm.size = 214 at hsz
      have t211 : tm.getD 211 undef = .pointer (some (ad.add y)) := hdep 17 (by rfl) (by decide)
      obtain ⟨hB9, t0, t1, t2, t4, n1, n3, n4, hx, n5, hy⟩ := HU.out W hS
      clear hB9
      clear hdep hfr
      go_simp
      exact hK W (Below.refl _ W)
    case s19 =>
      refine And.intro (by rfl) (fun tm W hS hsz hfr hdep K hK => ?_)
      change tm.size = 214 at hsz
      have t194 : tm.getD 194 undef = .pointer (some ⟨g, 0, none⟩) := hdep 0 (by rfl) (by decide)
      have t196 : tm.getD 196 undef = .int .i64 gi := hdep 2 (by rfl) (by decide)
      have t204 : tm.getD 204 undef = .int .u64 (sx : Int) := hdep 10 (by rfl) (by decide)
      have t212 : tm.getD 212 undef = .int .u64 (sy : Int) := hdep 18 (by rfl) (by decide)
      clear hdep hfr
      refine wp_call _ _ _ _ _ rfl rfl (by simp [Act.eval, t194, t196, t204, t212]) (by kernel_rfl) (HBX.out W (HU.out W hS).1) (fun e W9 h9 => ?_)
      obtain ⟨rfl, hb9⟩ := h9
      exact ⟨_, rfl, hK W9 hb9⟩
  case fin =>
    intro W hS
    have HS := Lib.hid hS
    clear hS
    simp only [fillD]
    go_simp
    go_wp2
    go_ret
    exact ⟨rfl, (HU.out _ HS.out).1⟩
end
theorem pSet_anyC (m : Mo) (A1 : Option Addr) (c1 : Nat) (A2 : Option Addr) (c2 : Nat) (sets : List Nat) (has : List Bool) (g : Nat) (w : World) (hT : TS w g m A1 c1 A2 c2 sets has) (hM : MoR w w.heap.size (.agg #[.int .i64 m.n, .slice A1 m.val.length c1, .slice A2 m.rel.length c2]) m) (hz : chkM m = 0) (hTab : Tab w) (hW : Words sets) (n : Nd) (hf : fldOk n) (ho : opsOk n sets.length) (hok : okC m.rel.length m.val.length n) :
    Calls Tryd.prog 67 #[.pointer (some ⟨g, 0, none⟩), .agg #[.int .i64 n.op, .int .i64 n.i, .int .i64 n.e, .int .i64 n.g, .int .i64 n.x, .int .i64 n.y]] w fun e' w' => e' = .returned (.int .u64 ((setN m n (sets.getD n.x.toNat 0) (sets.getD n.y.toNat 0) : Nat) : Int)) ∧ Below w.heap.size w w' := by
  obtain ⟨op, i, e, gi, nx, ny⟩ := n
  obtain ⟨hk, _, hr⟩ := hf
  unfold rangeOk at hr
  simp only [Bool.and_eq_true, Bool.or_eq_true, decide_eq_true_eq, beq_iff_eq] at hr
  obtain ⟨⟨r1, r2⟩, r3⟩ := hr
  unfold opsOk at ho
  unfold okC hasN at hok
  dsimp only at hk r1 r2 r3 ho hok ⊢
  unfold known at hk
  simp only [Bool.and_eq_true, decide_eq_true_eq] at hk
  have hops : op = 1 ∨ op = 2 ∨ op = 3 ∨ op = 4 ∨ op = 5 ∨ op = 6 ∨ op = 7 ∨ op = 8 ∨ op = 9 ∨ op = 10 ∨ op = 11 ∨ op = 12 ∨ op = 13 ∨ (14 ≤ op ∧ op ≤ 21) := by omega
  rcases hops with rfl | rfl | rfl | rfl | rfl | rfl | rfl | rfl | rfl | rfl | rfl | rfl | rfl | h
  · exact pSet1_any m A1 c1 A2 c2 sets has g w hT hM hz hTab hW i e gi nx ny
  · exact pSet2_any m A1 c1 A2 c2 sets has g w hT hM hz hTab hW i e gi nx ny
  · simp [shN] at r1 hok
    exact pSet3_any m A1 c1 A2 c2 sets has g w hT hM hz hTab hW i e gi nx ny ⟨r1.1, hok⟩
  · simp [usesX, usesY] at ho
    exact pSet4_any m A1 c1 A2 c2 sets has g w hT hM hz hTab hW i e gi nx ny ho.1
  · simp [usesX, usesY] at ho
    exact pSet5_any m A1 c1 A2 c2 sets has g w hT hM hz hTab hW i e gi nx ny ho.1 ho.2
  · simp [usesX, usesY] at ho
    exact pSet6_any m A1 c1 A2 c2 sets has g w hT hM hz hTab hW i e gi nx ny ho.1 ho.2
  · simp [usesX, usesY] at ho
    exact pSet7_any m A1 c1 A2 c2 sets has g w hT hM hz hTab hW i e gi nx ny ho.1 ho.2
  · simp [usesX, usesY] at ho
    exact pSet8_any m A1 c1 A2 c2 sets has g w hT hM hz hTab hW i e gi nx ny ho.1 ho.2
  · simp [usesX, usesY] at ho
    simp [shN, hasAgent] at r1 hok
    exact pSet9_any m A1 c1 A2 c2 sets has g w hT hM hz hTab hW i e gi nx ny ⟨r1.1, hok⟩ ho.1
  · simp [usesX, usesY] at ho
    simp [shN, hasAgent] at r1 hok
    exact pSet10_any m A1 c1 A2 c2 sets has g w hT hM hz hTab hW i e gi nx ny ⟨r1.1, hok⟩ ho.1
  · simp [usesX, usesY] at ho
    simp [shG, hasGroup] at r3 hok
    exact pSet11_any m A1 c1 A2 c2 sets has g w hT hM hz hTab hW i e gi nx ny ⟨r3.1, hok⟩ ho.1
  · simp [usesX, usesY] at ho
    simp [shG, hasGroup] at r3 hok
    exact pSet12_any m A1 c1 A2 c2 sets has g w hT hM hz hTab hW i e gi nx ny ⟨r3.1, hok⟩ ho.1
  · simp [usesX, usesY] at ho
    simp [shG, hasGroup] at r3 hok
    exact pSet13_any m A1 c1 A2 c2 sets has g w hT hM hz hTab hW i e gi nx ny ⟨r3.1, hok⟩ ho.1 ho.2
  · exfalso
    repeat' (split at hok)
    all_goals first | omega | cases hok
end Go.Proofs.YtjpmhbnikoggaaaDoor
