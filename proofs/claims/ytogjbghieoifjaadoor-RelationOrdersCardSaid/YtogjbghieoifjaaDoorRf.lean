/- Contracts of layer 2: Box and Diamond on both sides. -/
import Derived.Test.YtogjbghieoifjaaDoorRe
namespace Go.Proofs.YtogjbghieoifjaaDoor
open Go.RowKit Go.Proofs.Ws
/-- the points below n whose row passes a test -/
def whU (p : Nat → Bool) (R : List Nat) (n : Nat) : Nat := (List.range n).foldl (fun a k => if p (R.getD k 0) then a ||| p2 k else a) 0
theorem whU_succ (p : Nat → Bool) (R : List Nat) (n : Nat) : whU p R (n + 1) = if p (R.getD n 0) then whU p R n ||| p2 n else whU p R n := by
  unfold whU; rw [List.range_succ, List.foldl_append]; rfl
theorem whU_lt (p : Nat → Bool) (R : List Nat) : ∀ n, n ≤ 64 → whU p R n < 18446744073709551616
  | 0, _ => by show 0 < 18446744073709551616; decide
  | n + 1, h => by
    rw [whU_succ]
    split
    · exact (or_pow _ n (whU_lt p R n (by omega)) (by omega)).2
    · exact whU_lt p R n (by omega)
def whV (p : Nat → Bool) (R : List Nat) : Nat := if relErr R.length R = 0 then whU p R R.length else 0
def pBox (s x : Nat) : Bool := decide (x &&& (18446744073709551615 - s) = 0)
def pDia (s x : Nat) : Bool := decide (x &&& s ≠ 0)
theorem box_bits (x s : Nat) (hx : x < 18446744073709551616) (hs : s < 18446744073709551616) : (bits .andNot .u64 (x : Int) (s : Int) == 0) = pBox s x := by
  rw [u64_andNot_nat x s hx hs]
  unfold pBox
  generalize x &&& (18446744073709551615 - s) = t
  by_cases h : t = 0
  · subst h; rfl
  · rw [decide_eq_false h, beq_eq_false_iff_ne]; omega
theorem dia_bits (x s : Nat) (hx : x < 18446744073709551616) (hs : s < 18446744073709551616) : (bits .and .u64 (x : Int) (s : Int) != 0) = pDia s x := by
  rw [u64_and_nat x s hx hs]
  unfold pDia
  generalize x &&& s = t
  by_cases h : t = 0
  · subst h; rfl
  · rw [decide_eq_true h, bne_iff_ne]; omega
theorem relErr_zero {R : List Nat} {n : Nat} (h : relErr n R = 0) : n ≤ 64 := by
  unfold relErr at h
  split at h
  · cases h
  · omega
theorem box1_any (x s B : Nat) (W : World) (hx : x < 18446744073709551616) (hs : s < 18446744073709551616) (hc : W.cell? ⟨B, 0, none⟩ = some (.int .u64 (s : Int))) :
    Calls Tryd.prog 66 #[.int .u64 x, .pointer (some ⟨B, 0, none⟩)] W fun e W' => e = .returned (.bool (pBox s x)) ∧ W = W' := by
  have hb := box_bits x s hx hs
  clear hx hs
  go_enter Tryd.func66, Tryd.ntmps66
  go_wp2
  go_ret
  exact ⟨ret_bool (by first | rfl | exact hb), rfl⟩
set_option maxRecDepth 100000 in
set_option maxHeartbeats 2000000 in
theorem where_box (R : List Nat) (s : Nat) (A : Option Addr) (m c B : Nat) (w : World) (hR : Reads w w.heap.size 1 A m (us R)) (hw : Words R) (hm : m ≤ maxLen) (hs : s < 18446744073709551616) (hc : w.cell? ⟨B, 0, none⟩ = some (.int .u64 (s : Int))) :
    Calls Tryd.prog 65 #[.slice A m c, .func (.func 66) #[] #[.pointer (some ⟨B, 0, none⟩)]] w fun e w' => e = .returned (.int .u64 (whV (pBox s) R : Int)) ∧ w = w' := by
  have e1 := hR.word_len
  have HC := Lib.hid (valid_any R A m c _ w hR hw hm)
  have HW := Lib.hid hw
  by_cases h0 : relErr m R = 0
  · have hm64 := relErr_zero h0
    have HV : Hid (whV (pBox s) R = whU (pBox s) R m) := Lib.hid (by unfold whV; rw [e1, if_pos h0])
    rw [h0] at HC
    have HCL := Lib.hid (fun x hx => box1_any x s B w hx hs hc)
    clear h0 hw e1 hc
    go_enter Tryd.func65, Tryd.ntmps65
    go_wp2_with (go_at_call 46; refine (HC.out).mono ?_; rintro e w' ⟨rfl, rfl⟩)
    go_loop [5, 13] (fun sv i => ∃ k : Nat, k ≤ m ∧ i = .int .i64 k ∧ sv = .int .u64 (whU (pBox s) R k : Int)) (fun _ i => m - (intOf i).toNat)
    case atStart => exact ⟨0, Nat.zero_le _, rfl, rfl⟩
    case round =>
      obtain ⟨k, hk, rfl, rfl⟩ := hrel
      by_cases hlt : k < m
      · obtain ⟨ad, rfl, hb, hc⟩ := hR.word_k hlt
        have HT := Lib.hid (HCL.out _ (words_getD HW.out k))
        have hor := (or_pow _ k (whU_lt (pBox s) R k (by omega)) (by omega)).1
        have HO := Lib.hid (relOnly_any k w (by omega))
        by_cases hp : pBox s (R.getD k 0) = true
        · have HS : Hid (whU (pBox s) R (k + 1) = whU (pBox s) R k ||| p2 k) := Lib.hid (by rw [whU_succ, if_pos hp])
          rw [hp] at HT
          clear hp
          go_wp2_with (first | (go_at_call 66; refine (HT.out).mono ?_; rintro e w' ⟨rfl, rfl⟩) | (go_at_call 62; refine (HO.out).mono ?_; rintro e w' ⟨rfl, rfl⟩))
          go_round
          case rel => exact ⟨k + 1, by omega, by go_num, by rw [HS.out]⟩
          case measure => simp [intOf]; omega
        · have HS : Hid (whU (pBox s) R (k + 1) = whU (pBox s) R k) := Lib.hid (by rw [whU_succ, if_neg hp])
          have hp' : pBox s (R.getD k 0) = false := by simpa using hp
          rw [hp'] at HT
          clear hp hp'
          go_wp2_with (first | (go_at_call 66; refine (HT.out).mono ?_; rintro e w' ⟨rfl, rfl⟩))
          go_round
          case rel => exact ⟨k + 1, by omega, by go_num, by rw [HS.out]⟩
          case measure => simp [intOf]; omega
      · have hkm : k = m := by omega
        subst hkm
        go_wp2
        go_ret
        exact ⟨ret_u64 (by rw [HV.out]), rfl⟩
  · have HV : Hid (whV (pBox s) R = 0) := Lib.hid (by unfold whV; rw [e1, if_neg h0])
    rw [decide_eq_false h0] at HC
    clear h0 hw e1 hc
    go_enter Tryd.func65, Tryd.ntmps65
    go_wp2_with (go_at_call 46; refine (HC.out).mono ?_; rintro e w' ⟨rfl, rfl⟩)
    go_ret
    exact ⟨ret_u64 (by rw [HV.out]; rfl), rfl⟩
theorem box_any (R : List Nat) (s : Nat) (A : Option Addr) (m c : Nat) (w : World) (hR : Reads w w.heap.size 1 A m (us R)) (hw : Words R) (hm : m ≤ maxLen) (hs : s < 18446744073709551616) :
    Calls Tryd.prog 31 #[.slice A m c, .int .u64 s] w fun e w' => e = .returned (.int .u64 (whV (pBox s) R : Int)) ∧ Below w.heap.size w w' := by
  have hmf : ∀ (fn : Fn) (first cap : Array Value) (w : World), (Instr.makeFunc fn first cap).run Tryd.prog w = .ok (.func fn first cap) w := fun _ _ _ _ => rfl
  have hB0 : Below w.heap.size w (w.alloc (.cells #[.int .u64 s] 34)) := (Below.refl _ w).alloc (Nat.le_refl _) _
  have HC := Lib.hid (where_box R s A m c w.heap.size _ ((hR.below hB0).more (by simp)) hw hm hs (cell_new_l w (.int .u64 s) 34).1)
  have HB := Lib.hid hB0
  clear hR hw hs hB0
  go_enter Tryd.func31, Tryd.ntmps31
  go_wp2_with (go_at_call 65; refine (HC.out).mono ?_; rintro e w' ⟨rfl, rfl⟩)
  go_ret
  exact ⟨rfl, HB.out⟩
theorem dia1_any (x s B : Nat) (W : World) (hx : x < 18446744073709551616) (hs : s < 18446744073709551616) (hc : W.cell? ⟨B, 0, none⟩ = some (.int .u64 (s : Int))) :
    Calls Tryd.prog 67 #[.int .u64 x, .pointer (some ⟨B, 0, none⟩)] W fun e W' => e = .returned (.bool (pDia s x)) ∧ W = W' := by
  have hb := dia_bits x s hx hs
  clear hx hs
  go_enter Tryd.func67, Tryd.ntmps67
  go_wp2
  go_ret
  exact ⟨ret_bool (by first | rfl | exact hb), rfl⟩
set_option maxRecDepth 100000 in
set_option maxHeartbeats 2000000 in
theorem where_dia (R : List Nat) (s : Nat) (A : Option Addr) (m c B : Nat) (w : World) (hR : Reads w w.heap.size 1 A m (us R)) (hw : Words R) (hm : m ≤ maxLen) (hs : s < 18446744073709551616) (hc : w.cell? ⟨B, 0, none⟩ = some (.int .u64 (s : Int))) :
    Calls Tryd.prog 65 #[.slice A m c, .func (.func 67) #[] #[.pointer (some ⟨B, 0, none⟩)]] w fun e w' => e = .returned (.int .u64 (whV (pDia s) R : Int)) ∧ w = w' := by
  have e1 := hR.word_len
  have HC := Lib.hid (valid_any R A m c _ w hR hw hm)
  have HW := Lib.hid hw
  by_cases h0 : relErr m R = 0
  · have hm64 := relErr_zero h0
    have HV : Hid (whV (pDia s) R = whU (pDia s) R m) := Lib.hid (by unfold whV; rw [e1, if_pos h0])
    rw [h0] at HC
    have HCL := Lib.hid (fun x hx => dia1_any x s B w hx hs hc)
    clear h0 hw e1 hc
    go_enter Tryd.func65, Tryd.ntmps65
    go_wp2_with (go_at_call 46; refine (HC.out).mono ?_; rintro e w' ⟨rfl, rfl⟩)
    go_loop [5, 13] (fun sv i => ∃ k : Nat, k ≤ m ∧ i = .int .i64 k ∧ sv = .int .u64 (whU (pDia s) R k : Int)) (fun _ i => m - (intOf i).toNat)
    case atStart => exact ⟨0, Nat.zero_le _, rfl, rfl⟩
    case round =>
      obtain ⟨k, hk, rfl, rfl⟩ := hrel
      by_cases hlt : k < m
      · obtain ⟨ad, rfl, hb, hc⟩ := hR.word_k hlt
        have HT := Lib.hid (HCL.out _ (words_getD HW.out k))
        have hor := (or_pow _ k (whU_lt (pDia s) R k (by omega)) (by omega)).1
        have HO := Lib.hid (relOnly_any k w (by omega))
        by_cases hp : pDia s (R.getD k 0) = true
        · have HS : Hid (whU (pDia s) R (k + 1) = whU (pDia s) R k ||| p2 k) := Lib.hid (by rw [whU_succ, if_pos hp])
          rw [hp] at HT
          clear hp
          go_wp2_with (first | (go_at_call 67; refine (HT.out).mono ?_; rintro e w' ⟨rfl, rfl⟩) | (go_at_call 62; refine (HO.out).mono ?_; rintro e w' ⟨rfl, rfl⟩))
          go_round
          case rel => exact ⟨k + 1, by omega, by go_num, by rw [HS.out]⟩
          case measure => simp [intOf]; omega
        · have HS : Hid (whU (pDia s) R (k + 1) = whU (pDia s) R k) := Lib.hid (by rw [whU_succ, if_neg hp])
          have hp' : pDia s (R.getD k 0) = false := by simpa using hp
          rw [hp'] at HT
          clear hp hp'
          go_wp2_with (first | (go_at_call 67; refine (HT.out).mono ?_; rintro e w' ⟨rfl, rfl⟩))
          go_round
          case rel => exact ⟨k + 1, by omega, by go_num, by rw [HS.out]⟩
          case measure => simp [intOf]; omega
      · have hkm : k = m := by omega
        subst hkm
        go_wp2
        go_ret
        exact ⟨ret_u64 (by rw [HV.out]), rfl⟩
  · have HV : Hid (whV (pDia s) R = 0) := Lib.hid (by unfold whV; rw [e1, if_neg h0])
    rw [decide_eq_false h0] at HC
    clear h0 hw e1 hc
    go_enter Tryd.func65, Tryd.ntmps65
    go_wp2_with (go_at_call 46; refine (HC.out).mono ?_; rintro e w' ⟨rfl, rfl⟩)
    go_ret
    exact ⟨ret_u64 (by rw [HV.out]; rfl), rfl⟩
theorem dia_any (R : List Nat) (s : Nat) (A : Option Addr) (m c : Nat) (w : World) (hR : Reads w w.heap.size 1 A m (us R)) (hw : Words R) (hm : m ≤ maxLen) (hs : s < 18446744073709551616) :
    Calls Tryd.prog 33 #[.slice A m c, .int .u64 s] w fun e w' => e = .returned (.int .u64 (whV (pDia s) R : Int)) ∧ Below w.heap.size w w' := by
  have hmf : ∀ (fn : Fn) (first cap : Array Value) (w : World), (Instr.makeFunc fn first cap).run Tryd.prog w = .ok (.func fn first cap) w := fun _ _ _ _ => rfl
  have hB0 : Below w.heap.size w (w.alloc (.cells #[.int .u64 s] 34)) := (Below.refl _ w).alloc (Nat.le_refl _) _
  have HC := Lib.hid (where_dia R s A m c w.heap.size _ ((hR.below hB0).more (by simp)) hw hm hs (cell_new_l w (.int .u64 s) 34).1)
  have HB := Lib.hid hB0
  clear hR hw hs hB0
  go_enter Tryd.func33, Tryd.ntmps33
  go_wp2_with (go_at_call 65; refine (HC.out).mono ?_; rintro e w' ⟨rfl, rfl⟩)
  go_ret
  exact ⟨rfl, HB.out⟩
set_option maxRecDepth 100000 in
set_option maxHeartbeats 2000000 in
theorem ref_box (R : List Nat) (s : Nat) (A : Option Addr) (m c : Nat) (w : World) (hR : Reads w w.heap.size 1 A m (us R)) (hw : Words R) (hm : m ≤ maxLen) (hs : s < 18446744073709551616) :
    Calls Tryd.prog 32 #[.slice A m c, .int .u64 s] w fun e w' => e = .returned (.int .u64 (whV (pBox s) R : Int)) ∧ ∃ q, w' = w.drewN q := by
  unfold maxLen at hm
  have e1 := hR.word_len
  have HC := Lib.hid (fun q => ref2Valid_any R A m c _ (w.drewN q) (hR.drewN q) hw hm)
  have HW := Lib.hid hw
  by_cases h0 : relErr m R = 0
  · have hm64 := relErr_zero h0
    have HV : Hid (whV (pBox s) R = whU (pBox s) R m) := Lib.hid (by unfold whV; rw [e1, if_pos h0])
    rw [h0] at HC
    clear h0 hw e1
    go_enter Tryd.func32, Tryd.ntmps32
    go_wp2
    go_loopw [5, 6] (fun sv i wr => ∃ k q : Nat, k ≤ m ∧ i = .int .i64 k ∧ sv = .int .u64 (whU (pBox s) R k : Int) ∧ wr = w.drewN q) (fun _ i _ => m - (intOf i).toNat)
    case atStart => exact ⟨0, 0, Nat.zero_le _, rfl, rfl, rfl⟩
    case round =>
      obtain ⟨k, q, hk, rfl, rfl, rfl⟩ := hrel
      by_cases hlt : k < m
      · obtain ⟨ad, rfl, hb, hc⟩ := hR.word_k hlt
        obtain ⟨x, hx⟩ : ∃ x, R.getD k 0 = x := ⟨_, rfl⟩
        have hbt := box_bits x s (by rw [← hx]; exact words_getD HW.out k) hs
        rw [hx] at hc
        have hor := (or_pow _ k (whU_lt (pBox s) R k (by omega)) (by omega)).1
        have hwp := wrap_pow k (by omega)
        by_cases hp : pBox s x = true
        · have HS : Hid (whU (pBox s) R (k + 1) = whU (pBox s) R k ||| p2 k) := Lib.hid (by rw [whU_succ, hx, if_pos hp])
          rw [hp] at hbt
          clear hp hx
          go_wp2_with fail
          refine (HC.out q).mono ?_
          rintro e w' ⟨rfl, ⟨q2, rfl⟩⟩
          go_wp2
          go_roundw
          case rel => exact ⟨k + 1, q + q2, by omega, by go_num, by rw [HS.out], by first | rfl | rw [World.drewN_drewN]⟩
          case measure => simp [intOf]; omega
        · have HS : Hid (whU (pBox s) R (k + 1) = whU (pBox s) R k) := Lib.hid (by rw [whU_succ, hx, if_neg hp])
          have hp' : pBox s x = false := by simpa using hp
          rw [hp'] at hbt
          clear hp hp' hx
          go_wp2_with fail
          refine (HC.out q).mono ?_
          rintro e w' ⟨rfl, ⟨q2, rfl⟩⟩
          go_wp2
          go_roundw
          case rel => exact ⟨k + 1, q + q2, by omega, by go_num, by rw [HS.out], by first | rfl | rw [World.drewN_drewN]⟩
          case measure => simp [intOf]; omega
      · have hkm : k = m := by omega
        subst hkm
        go_wp2
        go_ret
        exact ⟨ret_u64 (by rw [HV.out]), ⟨q, rfl⟩⟩
  · have HV : Hid (whV (pBox s) R = 0) := Lib.hid (by unfold whV; rw [e1, if_neg h0])
    simp only [decide_eq_false h0] at HC
    clear h0 hw e1
    go_enter Tryd.func32, Tryd.ntmps32
    go_wp2
    go_loopw [5, 6] (fun sv i wr => i = .int .i64 0 ∧ sv = .int .u64 0 ∧ wr = w) (fun _ _ _ => 0)
    case atStart => exact ⟨rfl, rfl, rfl⟩
    case round =>
      obtain ⟨rfl, rfl, rfl⟩ := hrel
      by_cases hz : 0 < m
      · have H0 := Lib.hid (HC.out 0)
        rw [World.drewN_zero] at H0
        go_wp2_with fail
        refine (H0.out).mono ?_
        rintro e w' ⟨rfl, ⟨q2, rfl⟩⟩
        go_wp2
        go_ret
        exact ⟨ret_u64 (by rw [HV.out]; rfl), ⟨q2, rfl⟩⟩
      · go_wp2
        go_ret
        exact ⟨ret_u64 (by rw [HV.out]; rfl), ⟨0, rfl⟩⟩
set_option maxRecDepth 100000 in
set_option maxHeartbeats 2000000 in
theorem ref_dia (R : List Nat) (s : Nat) (A : Option Addr) (m c : Nat) (w : World) (hR : Reads w w.heap.size 1 A m (us R)) (hw : Words R) (hm : m ≤ maxLen) (hs : s < 18446744073709551616) :
    Calls Tryd.prog 34 #[.slice A m c, .int .u64 s] w fun e w' => e = .returned (.int .u64 (whV (pDia s) R : Int)) ∧ ∃ q, w' = w.drewN q := by
  unfold maxLen at hm
  have e1 := hR.word_len
  have HC := Lib.hid (fun q => ref2Valid_any R A m c _ (w.drewN q) (hR.drewN q) hw hm)
  have HW := Lib.hid hw
  by_cases h0 : relErr m R = 0
  · have hm64 := relErr_zero h0
    have HV : Hid (whV (pDia s) R = whU (pDia s) R m) := Lib.hid (by unfold whV; rw [e1, if_pos h0])
    rw [h0] at HC
    clear h0 hw e1
    go_enter Tryd.func34, Tryd.ntmps34
    go_wp2
    go_loopw [5, 6] (fun sv i wr => ∃ k q : Nat, k ≤ m ∧ i = .int .i64 k ∧ sv = .int .u64 (whU (pDia s) R k : Int) ∧ wr = w.drewN q) (fun _ i _ => m - (intOf i).toNat)
    case atStart => exact ⟨0, 0, Nat.zero_le _, rfl, rfl, rfl⟩
    case round =>
      obtain ⟨k, q, hk, rfl, rfl, rfl⟩ := hrel
      by_cases hlt : k < m
      · obtain ⟨ad, rfl, hb, hc⟩ := hR.word_k hlt
        obtain ⟨x, hx⟩ : ∃ x, R.getD k 0 = x := ⟨_, rfl⟩
        have hbt := dia_bits x s (by rw [← hx]; exact words_getD HW.out k) hs
        rw [hx] at hc
        have hor := (or_pow _ k (whU_lt (pDia s) R k (by omega)) (by omega)).1
        have hwp := wrap_pow k (by omega)
        by_cases hp : pDia s x = true
        · have HS : Hid (whU (pDia s) R (k + 1) = whU (pDia s) R k ||| p2 k) := Lib.hid (by rw [whU_succ, hx, if_pos hp])
          rw [hp] at hbt
          clear hp hx
          go_wp2_with fail
          refine (HC.out q).mono ?_
          rintro e w' ⟨rfl, ⟨q2, rfl⟩⟩
          go_wp2
          go_roundw
          case rel => exact ⟨k + 1, q + q2, by omega, by go_num, by rw [HS.out], by first | rfl | rw [World.drewN_drewN]⟩
          case measure => simp [intOf]; omega
        · have HS : Hid (whU (pDia s) R (k + 1) = whU (pDia s) R k) := Lib.hid (by rw [whU_succ, hx, if_neg hp])
          have hp' : pDia s x = false := by simpa using hp
          rw [hp'] at hbt
          clear hp hp' hx
          go_wp2_with fail
          refine (HC.out q).mono ?_
          rintro e w' ⟨rfl, ⟨q2, rfl⟩⟩
          go_wp2
          go_roundw
          case rel => exact ⟨k + 1, q + q2, by omega, by go_num, by rw [HS.out], by first | rfl | rw [World.drewN_drewN]⟩
          case measure => simp [intOf]; omega
      · have hkm : k = m := by omega
        subst hkm
        go_wp2
        go_ret
        exact ⟨ret_u64 (by rw [HV.out]), ⟨q, rfl⟩⟩
  · have HV : Hid (whV (pDia s) R = 0) := Lib.hid (by unfold whV; rw [e1, if_neg h0])
    simp only [decide_eq_false h0] at HC
    clear h0 hw e1
    go_enter Tryd.func34, Tryd.ntmps34
    go_wp2
    go_loopw [5, 6] (fun sv i wr => i = .int .i64 0 ∧ sv = .int .u64 0 ∧ wr = w) (fun _ _ _ => 0)
    case atStart => exact ⟨rfl, rfl, rfl⟩
    case round =>
      obtain ⟨rfl, rfl, rfl⟩ := hrel
      by_cases hz : 0 < m
      · have H0 := Lib.hid (HC.out 0)
        rw [World.drewN_zero] at H0
        go_wp2_with fail
        refine (H0.out).mono ?_
        rintro e w' ⟨rfl, ⟨q2, rfl⟩⟩
        go_wp2
        go_ret
        exact ⟨ret_u64 (by rw [HV.out]; rfl), ⟨q2, rfl⟩⟩
      · go_wp2
        go_ret
        exact ⟨ret_u64 (by rw [HV.out]; rfl), ⟨0, rfl⟩⟩
end Go.Proofs.YtogjbghieoifjaaDoor
