/- Layer 9: the reference's prime implicants. -/
import Derived.Test.YtkkkomkljpolbaaDoorNIm
import Derived.Test.YtkkkomkljpolbaaDoorNIq
namespace Go.Proofs.YtkkkomkljpolbaaDoor
open Go.RowKit Go.Proofs.Ws Go.Maps
set_option maxRecDepth 100000
theorem full_mask : ∀ n : Fin 7, ∀ i : Fin 64, (18446744073709551615 - fullN n.val).testBit i.val = decide (2 ^ n.val ≤ i.val) := by decide +kernel
theorem chk_iff {t n : Nat} (ht : t < 18446744073709551616) (hn : n ≤ 6) : t &&& (18446744073709551615 - fullN n) = 0 ↔ t / 2 ^ 2 ^ n = 0 := by
  have hb : ∀ i, t.testBit i = true → i < 64 := fun i hi => by
    rcases Nat.lt_or_ge i 64 with h | h
    · exact h
    · have := Nat.testBit_lt_two_pow (Nat.lt_of_lt_of_le ht (Nat.pow_le_pow_right (n := 2) (by decide) h))
      rw [hi] at this; cases this
  constructor
  · intro h
    apply Nat.div_eq_of_lt
    apply Nat.lt_pow_two_of_testBit
    intro i hi
    rw [Bool.eq_false_iff]
    intro hbit
    have h64 := hb i hbit
    have h2 : (t &&& (18446744073709551615 - fullN n)).testBit i = true := by
      rw [Nat.testBit_and, hbit, full_mask ⟨n, by omega⟩ ⟨i, h64⟩, Bool.true_and]
      exact decide_eq_true hi
    rw [h, Nat.zero_testBit] at h2
    cases h2
  · intro h
    have hlt : t < 2 ^ 2 ^ n := by
      rcases Nat.lt_or_ge t (2 ^ 2 ^ n) with h2 | h2
      · exact h2
      · have := Nat.div_pos h2 (Nat.two_pow_pos _)
        omega
    apply Nat.eq_of_testBit_eq
    intro i
    rw [Nat.testBit_and, Nat.zero_testBit]
    cases hbit : t.testBit i with
    | false => rfl
    | true =>
      rw [full_mask ⟨n, by omega⟩ ⟨i, hb i hbit⟩, Bool.true_and]
      refine decide_eq_false (fun hi => ?_)
      have := Nat.testBit_lt_two_pow (Nat.lt_of_lt_of_le hlt (Nat.pow_le_pow_right (n := 2) (by decide) hi))
      rw [hbit] at this; cases this
theorem div_cast9 (t e : Nat) : ((t : Nat) : Int) / 2 ^ e = ((t / 2 ^ e : Nat) : Int) := by push_cast; rfl
theorem request_0 (t : Nat) (w : World) : Calls Tryd.prog 104 #[.int .u64 (t : Int), .int .i64 0] w fun e w' => e = .returned (.int .i64 (if t / 2 ^ 1 = 0 then 0 else 1)) ∧ w = w' := by
  by_cases hq : t / 2 ^ 1 = 0
  · rw [if_pos hq]
    have e : (((t : Nat) : Int) / 2 ^ 1 != 0) = false := by
      rw [div_cast9, hq]; rfl
    clear hq
    go_enter Tryd.func104, Tryd.ntmps104
    go_wp2
    go_ret
    exact ⟨rfl, rfl⟩
  · rw [if_neg hq]
    have e : (((t : Nat) : Int) / 2 ^ 1 != 0) = true := by
      rw [div_cast9]
      generalize t / 2 ^ 1 = z at *
      simp only [bne_iff_ne, ne_eq]
      omega
    clear hq
    go_enter Tryd.func104, Tryd.ntmps104
    go_wp2
    go_ret
    exact ⟨rfl, rfl⟩
theorem request_1 (t : Nat) (w : World) : Calls Tryd.prog 104 #[.int .u64 (t : Int), .int .i64 1] w fun e w' => e = .returned (.int .i64 (if t / 2 ^ 2 = 0 then 0 else 1)) ∧ w = w' := by
  by_cases hq : t / 2 ^ 2 = 0
  · rw [if_pos hq]
    have e : (((t : Nat) : Int) / 2 ^ 2 != 0) = false := by
      rw [div_cast9, hq]; rfl
    clear hq
    go_enter Tryd.func104, Tryd.ntmps104
    go_wp2
    go_ret
    exact ⟨rfl, rfl⟩
  · rw [if_neg hq]
    have e : (((t : Nat) : Int) / 2 ^ 2 != 0) = true := by
      rw [div_cast9]
      generalize t / 2 ^ 2 = z at *
      simp only [bne_iff_ne, ne_eq]
      omega
    clear hq
    go_enter Tryd.func104, Tryd.ntmps104
    go_wp2
    go_ret
    exact ⟨rfl, rfl⟩
theorem request_2 (t : Nat) (w : World) : Calls Tryd.prog 104 #[.int .u64 (t : Int), .int .i64 2] w fun e w' => e = .returned (.int .i64 (if t / 2 ^ 4 = 0 then 0 else 1)) ∧ w = w' := by
  by_cases hq : t / 2 ^ 4 = 0
  · rw [if_pos hq]
    have e : (((t : Nat) : Int) / 2 ^ 4 != 0) = false := by
      rw [div_cast9, hq]; rfl
    clear hq
    go_enter Tryd.func104, Tryd.ntmps104
    go_wp2
    go_ret
    exact ⟨rfl, rfl⟩
  · rw [if_neg hq]
    have e : (((t : Nat) : Int) / 2 ^ 4 != 0) = true := by
      rw [div_cast9]
      generalize t / 2 ^ 4 = z at *
      simp only [bne_iff_ne, ne_eq]
      omega
    clear hq
    go_enter Tryd.func104, Tryd.ntmps104
    go_wp2
    go_ret
    exact ⟨rfl, rfl⟩
theorem request_3 (t : Nat) (w : World) : Calls Tryd.prog 104 #[.int .u64 (t : Int), .int .i64 3] w fun e w' => e = .returned (.int .i64 (if t / 2 ^ 8 = 0 then 0 else 1)) ∧ w = w' := by
  by_cases hq : t / 2 ^ 8 = 0
  · rw [if_pos hq]
    have e : (((t : Nat) : Int) / 2 ^ 8 != 0) = false := by
      rw [div_cast9, hq]; rfl
    clear hq
    go_enter Tryd.func104, Tryd.ntmps104
    go_wp2
    go_ret
    exact ⟨rfl, rfl⟩
  · rw [if_neg hq]
    have e : (((t : Nat) : Int) / 2 ^ 8 != 0) = true := by
      rw [div_cast9]
      generalize t / 2 ^ 8 = z at *
      simp only [bne_iff_ne, ne_eq]
      omega
    clear hq
    go_enter Tryd.func104, Tryd.ntmps104
    go_wp2
    go_ret
    exact ⟨rfl, rfl⟩
theorem request_4 (t : Nat) (w : World) : Calls Tryd.prog 104 #[.int .u64 (t : Int), .int .i64 4] w fun e w' => e = .returned (.int .i64 (if t / 2 ^ 16 = 0 then 0 else 1)) ∧ w = w' := by
  by_cases hq : t / 2 ^ 16 = 0
  · rw [if_pos hq]
    have e : (((t : Nat) : Int) / 2 ^ 16 != 0) = false := by
      rw [div_cast9, hq]; rfl
    clear hq
    go_enter Tryd.func104, Tryd.ntmps104
    go_wp2
    go_ret
    exact ⟨rfl, rfl⟩
  · rw [if_neg hq]
    have e : (((t : Nat) : Int) / 2 ^ 16 != 0) = true := by
      rw [div_cast9]
      generalize t / 2 ^ 16 = z at *
      simp only [bne_iff_ne, ne_eq]
      omega
    clear hq
    go_enter Tryd.func104, Tryd.ntmps104
    go_wp2
    go_ret
    exact ⟨rfl, rfl⟩
theorem request_5 (t : Nat) (w : World) : Calls Tryd.prog 104 #[.int .u64 (t : Int), .int .i64 5] w fun e w' => e = .returned (.int .i64 (if t / 2 ^ 32 = 0 then 0 else 1)) ∧ w = w' := by
  by_cases hq : t / 2 ^ 32 = 0
  · rw [if_pos hq]
    have e : (((t : Nat) : Int) / 2 ^ 32 != 0) = false := by
      rw [div_cast9, hq]; rfl
    clear hq
    go_enter Tryd.func104, Tryd.ntmps104
    go_wp2
    go_ret
    exact ⟨rfl, rfl⟩
  · rw [if_neg hq]
    have e : (((t : Nat) : Int) / 2 ^ 32 != 0) = true := by
      rw [div_cast9]
      generalize t / 2 ^ 32 = z at *
      simp only [bne_iff_ne, ne_eq]
      omega
    clear hq
    go_enter Tryd.func104, Tryd.ntmps104
    go_wp2
    go_ret
    exact ⟨rfl, rfl⟩
theorem request_6 (t : Nat) (w : World) : Calls Tryd.prog 104 #[.int .u64 (t : Int), .int .i64 6] w fun e w' => e = .returned (.int .i64 0) ∧ w = w' := by
  go_enter Tryd.func104, Tryd.ntmps104
  go_wp2
  go_ret
  exact ⟨rfl, rfl⟩
theorem request_any (t : Nat) (ht : t < 18446744073709551616) (n : Int) (w : World) : Calls Tryd.prog 104 #[.int .u64 (t : Int), .int .i64 n] w fun e w' => e = .returned (.int .i64 (chkT t n)) ∧ w = w' := by
  by_cases h0 : 0 ≤ n
  · by_cases h6 : n ≤ 6
    · obtain ⟨k, rfl⟩ : ∃ k : Nat, n = (k : Int) := ⟨n.toNat, by omega⟩
      have hk : k ≤ 6 := by omega
      have hc : chkT t (k : Int) = if t / 2 ^ 2 ^ k = 0 then 0 else 1 := by
        unfold chkT
        rw [if_pos ⟨h0, h6⟩, Int.toNat_natCast]
        by_cases h : t / 2 ^ 2 ^ k = 0
        · rw [if_pos h, if_pos ((chk_iff ht hk).2 h)]
        · rw [if_neg h, if_neg (fun h2 => h ((chk_iff ht hk).1 h2))]
      rw [hc]
      clear hc h0 h6
      have hcs : k = 0 ∨ k = 1 ∨ k = 2 ∨ k = 3 ∨ k = 4 ∨ k = 5 ∨ k = 6 := by omega
      rcases hcs with rfl | rfl | rfl | rfl | rfl | rfl | rfl
      · exact request_0 t w
      · exact request_1 t w
      · exact request_2 t w
      · exact request_3 t w
      · exact request_4 t w
      · exact request_5 t w
      · rw [if_pos (Nat.div_eq_of_lt ht)]
        exact request_6 t w
    · have hc : chkT t n = 2 := by unfold chkT; rw [if_neg (fun h => h6 h.2)]
      rw [hc]
      have d0 : decide (n < 0) = false := decide_eq_false (by omega)
      have d6 : decide (6 < n) = true := decide_eq_true (by omega)
      clear hc h0 h6
      go_enter Tryd.func104, Tryd.ntmps104
      go_wp2
      go_ret
      exact ⟨rfl, rfl⟩
  · have hc : chkT t n = 2 := by unfold chkT; rw [if_neg (fun h => h0 h.1)]
    rw [hc]
    have d0 : decide (n < 0) = true := decide_eq_true (by omega)
    clear hc h0
    go_enter Tryd.func104, Tryd.ntmps104
    go_wp2
    go_ret
    exact ⟨rfl, rfl⟩
theorem bit_eq0 (t v : Nat) (ht : t < 18446744073709551616) : (bits .and .u64 ((t : Int) / 2 ^ v) 1 == 0) = !t.testBit v := by
  have e : (t : Int) / 2 ^ v = ((t / 2 ^ v : Nat) : Int) := by push_cast; rfl
  have h := u64_and_nat (t / 2 ^ v) 1 (Nat.lt_of_le_of_lt (Nat.div_le_self _ _) ht) (by decide)
  rw [e]
  have e2 : ((1 : Nat) : Int) = 1 := rfl
  rw [e2] at h
  rw [h, Nat.and_one_is_mod, Nat.testBit_eq_decide_div_mod_eq]
  have hm : t / 2 ^ v % 2 < 2 := Nat.mod_lt _ (by decide)
  generalize t / 2 ^ v % 2 = z at *
  have : z = 0 ∨ z = 1 := by omega
  rcases this with rfl | rfl <;> rfl
theorem i64_and_nat (a b : Nat) (ha : a < 4611686018427387904) (hb : b < 4611686018427387904) : bits .and .i64 (a : Int) (b : Int) = ((a &&& b : Nat) : Int) :=
  (bits_nat .i64 62 (by decide) (fun n h0 h1 => by rw [IntKind.wrap_i64]; omega) a b ha hb).1
theorem wrap_pow9 {e : Nat} (he : e ≤ 6) : wrap64 ((2 : Int) ^ e) = ((2 ^ e : Nat) : Int) := by
  have : ((2 ^ e : Nat) : Int) = (2 : Int) ^ e := by simp
  rw [← this]
  have h16 : 2 ^ e ≤ 64 := Nat.pow_le_pow_right (n := 2) (by decide) he
  generalize (2 ^ e : Nat) = z at *
  unfold wrap64
  omega
theorem insideB_all {t n care val P : Nat} (hP : 2 ^ n = P) : insideB t n care val = (List.range P).all (fun v => !(decide (v &&& care = val)) || t.testBit v) := by subst hP; rfl
set_option maxHeartbeats 4000000 in
theorem inside_any (t n care val : Nat) (ht : t < 18446744073709551616) (hn : n ≤ 6) (hc : care < 64) (_hv : val < 64) (w : World) :
    Calls Tryd.prog 105 #[.int .u64 (t : Int), .int .i64 (n : Int), .int .i64 (care : Int), .int .i64 (val : Int)] w fun e w' => e = .returned (.bool (insideB t n care val)) ∧ Below w.heap.size w w' := by
  obtain ⟨P, hP⟩ : ∃ P, 2 ^ n = P := ⟨_, rfl⟩
  have HIA := Lib.hid (insideB_all (t := t) (care := care) (val := val) hP)
  have hsh : wrap64 ((2 : Int) ^ n) = (P : Int) := by rw [wrap_pow9 hn, hP]
  have hP64 : P ≤ 64 := by rw [← hP]; exact Nat.pow_le_pow_right (n := 2) (by decide) hn
  generalize insideB t n care val = r at *
  clear hP
  go_enter Tryd.func105, Tryd.ntmps105
  go_wp2
  go_loopw [9] (fun i wr => ∃ k : Nat, k ≤ P ∧ i = .int .i64 k ∧ Hid (∀ v, v < k → (!(decide (v &&& care = val)) || t.testBit v) = true) ∧ Hid (Below w.heap.size w wr)) (fun i _ => P - (intOf i).toNat)
  case atStart => exact ⟨0, Nat.zero_le _, rfl, Lib.hid (fun v h => absurd h (by omega)), Lib.hid (Below.refl _ _)⟩
  case round =>
    obtain ⟨v, hv2, rfl, HA, HB⟩ := hrel
    by_cases hvp : v < P
    · have hand := i64_and_nat v care (by omega) (by omega)
      have hbit := bit_eq0 t v ht
      have HN : Hid ((!(decide (v &&& care = val)) || t.testBit v) = true → ∀ u, u < v + 1 → (!(decide (u &&& care = val)) || t.testBit u) = true) := Lib.hid (fun h u hu => by
        by_cases e : u = v
        · rw [e]; exact h
        · exact HA.out u (by omega))
      have HF : Hid ((!(decide (v &&& care = val)) || t.testBit v) = false → r = false) := Lib.hid (fun h => by
        rw [HIA.out, List.all_eq_false]
        exact ⟨v, List.mem_range.2 hvp, by rw [h]; decide⟩)
      by_cases hc2 : v &&& care = val
      · rw [decide_eq_true hc2] at HN HF
        have q1 : (bits .and .i64 (v : Int) (care : Int) == (val : Int)) = true := by rw [hand, hc2]; simp
        clear hand hc2
        cases hb : t.testBit v
        · rw [hb] at hbit HF
          have hr := HF.out rfl
          subst hr
          clear HN HF hb
          go_wp2
          go_ret
          exact ⟨rfl, HB.out⟩
        · rw [hb] at hbit HN
          have HA2 := Lib.hid (HN.out rfl)
          clear HN HF hb HA
          go_wp2
          go_roundw
          case rel => exact ⟨v + 1, by omega, by go_num, HA2, HB⟩
          case measure => simp [intOf]; omega
      · rw [decide_eq_false hc2] at HN
        have q1 : (bits .and .i64 (v : Int) (care : Int) == (val : Int)) = false := by
          rw [hand, beq_eq_false_iff_ne]
          exact fun e => hc2 (by exact_mod_cast e)
        have HA2 := Lib.hid (HN.out rfl)
        clear hand hc2 HN HF HA hbit
        go_wp2
        go_roundw
        case rel => exact ⟨v + 1, by omega, by go_num, HA2, HB⟩
        case measure => simp [intOf]; omega
    · have hvP : P = v := by omega
      subst hvP
      have hr : r = true := by
        rw [HIA.out, List.all_eq_true]
        exact fun u hu => HA.out u (List.mem_range.1 hu)
      subst hr
      clear hvp HA HIA
      go_wp2
      go_ret
      exact ⟨rfl, HB.out⟩
/-- the pairs up to (care, val), row by row -/
def pairsUp (P care val : Nat) : List (Nat × Nat) := (List.range care).flatMap (fun a => (List.range P).map (fun b => (a, b))) ++ (List.range val).map (fun b => (care, b))
theorem up_zero (P : Nat) : pairsUp P 0 0 = [] := rfl
theorem up_succ (P care val : Nat) : pairsUp P care (val + 1) = pairsUp P care val ++ [(care, val)] := by
  unfold pairsUp
  rw [List.range_succ, List.map_append, ← List.append_assoc]
  rfl
theorem up_row (P care : Nat) : pairsUp P care P = pairsUp P (care + 1) 0 := by
  unfold pairsUp
  rw [List.range_succ, List.flatMap_append]
  simp
theorem up_all (P : Nat) : pairsUp P P 0 = pairsL P := by
  unfold pairsUp pairsL
  simp
theorem up_len {P care val : Nat} (hP : P ≤ 64) (hc : care ≤ P) (hv : val ≤ P) : (pairsUp P care val).length ≤ 4160 := by
  have key : ∀ c, ((List.range c).flatMap (fun a => (List.range P).map (fun b => (a, b)))).length = c * P := by
    intro c
    induction c with
    | zero => simp
    | succ c ih => rw [List.range_succ, List.flatMap_append, List.length_append, ih]; simp [Nat.succ_mul]
  unfold pairsUp
  rw [List.length_append, key, List.length_map, List.length_range]
  have := Nat.mul_le_mul (Nat.le_trans hc hP) hP
  omega
/-- the implicants found so far -/
def prUp (t n P care val : Nat) : List (Nat × Nat) := (pairsUp P care val).filter (primeB t n)
theorem prUp_len {t n P care val : Nat} (hP : P ≤ 64) (hc : care ≤ P) (hv : val ≤ P) : (prUp t n P care val).length ≤ 4160 := Nat.le_trans (List.length_filter_le _ _) (up_len hP hc hv)
theorem prUp_hit {t n P care val : Nat} (h : primeB t n (care, val) = true) : prUp t n P care (val + 1) = prUp t n P care val ++ [(care, val)] := by
  unfold prUp
  rw [up_succ, List.filter_append, List.filter_cons_of_pos h]
  rfl
theorem prUp_miss {t n P care val : Nat} (h : primeB t n (care, val) = false) : prUp t n P care (val + 1) = prUp t n P care val := by
  unfold prUp
  rw [up_succ, List.filter_append, List.filter_cons_of_neg (by rw [h]; decide)]
  exact List.append_nil _
theorem prUp_row (t n P care : Nat) : prUp t n P care P = prUp t n P (care + 1) 0 := by unfold prUp; rw [up_row]
theorem prUp_all {t n P : Nat} (hP : 2 ^ n = P) : prUp t n P P 0 = primesF t n := by unfold prUp primesF; rw [up_all, hP]
/-- none of the first k facts of a cube can be left out -/
def prK (t n care val k : Nat) : Bool := (List.range k).all (fun i => !(care.testBit i) || !insideB t n (clr care i) (clr val i))
theorem prK_zero (t n care val : Nat) : prK t n care val 0 = true := rfl
theorem prK_succ (t n care val k : Nat) : prK t n care val (k + 1) = (prK t n care val k && (!(care.testBit k) || !insideB t n (clr care k) (clr val k))) := by
  unfold prK
  rw [List.range_succ, List.all_append]
  simp
theorem prime_eq {t n care val : Nat} (hc : care < 2 ^ n) : primeB t n (care, val) = (decide (val &&& care = val) && insideB t n care val && prK t n care val n) := by
  unfold primeB prK
  rw [decide_eq_true hc]
  rfl
theorem over_all : ∀ a b : Fin 64, (bits .andNot .i64 (a.val : Int) (b.val : Int) != 0) = !decide (a.val &&& b.val = a.val) := by decide +kernel
theorem low_and : ∀ a : Fin 64, ∀ i : Fin 6, (bits .and .i64 (a.val : Int) ((2 ^ i.val : Nat) : Int) != 0) = a.val.testBit i.val := by decide +kernel
set_option maxHeartbeats 8000000 in
theorem rImpl_any (t : Nat) (ht : t < 18446744073709551616) (n : Int) (w : World) :
    Calls Tryd.prog 40 #[.int .u64 (t : Int), .int .i64 n] w fun e w' => ∃ A c, e = .returned (.tuple #[.slice A (if chkT t n = 0 then primesF t n.toNat else []).length c, .int .i64 (chkT t n)]) ∧ w'.ownsRow w.heap.size 57 2 (.slice A (if chkT t n = 0 then primesF t n.toNat else []).length c) (if chkT t n = 0 then primesF t n.toNat else []).length (cbs (if chkT t n = 0 then primesF t n.toNat else [])) ∧ Below w.heap.size w w' := by
  have HV := Lib.hid (request_any t ht n w)
  by_cases hz : chkT t n = 0
  · have h06 : 0 ≤ n ∧ n ≤ 6 := by
      apply Classical.byContradiction
      intro h
      unfold chkT at hz
      rw [if_neg h] at hz
      cases hz
    obtain ⟨n, rfl⟩ : ∃ k : Nat, n = (k : Int) := ⟨n.toNat, by omega⟩
    have hn6 : n ≤ 6 := by omega
    rw [if_pos hz, hz, Int.toNat_natCast]
    rw [hz] at HV
    clear hz h06
    obtain ⟨P, hP⟩ : ∃ P, 2 ^ n = P := ⟨_, rfl⟩
    have HALL := Lib.hid (prUp_all (t := t) hP)
    have hsh : wrap64 ((2 : Int) ^ n) = (P : Int) := by rw [wrap_pow9 hn6, hP]
    have hP64 : P ≤ 64 := by rw [← hP]; exact Nat.pow_le_pow_right (n := 2) (by decide) hn6
    have HP := Lib.hid hP
    have HSH := Lib.hid hsh
    obtain ⟨i0, hi0, hz0, hz1, hz2⟩ := info_parts Tryd.infoCb
    rw [← HALL.out]
    clear hP HALL
    go_enter Tryd.func40, Tryd.ntmps40
    go_wp2_with fail
    refine (HV.out).mono ?_
    rintro e w1 ⟨rfl, rfl⟩
    go_wp2
    clear HV
    go_loopw [7, 8, 9, 10, 11, 12] (fun v i _ _ _ _ wr => ∃ care : Nat, care ≤ P ∧ i = .int .i64 care ∧ Hid (∃ A c, v = .slice A (prUp t n P care 0).length c ∧ wr.ownsRow w.heap.size 57 2 (.slice A (prUp t n P care 0).length c) (prUp t n P care 0).length (cbs (prUp t n P care 0))) ∧ Hid (Below w.heap.size w wr)) (fun _ i _ _ _ _ _ => P - (intOf i).toNat)
    case atStart => exact ⟨0, Nat.zero_le _, rfl, Lib.hid ⟨none, 0, rfl, World.ownsRow_nil _ _ _ _⟩, Lib.hid (Below.refl _ _)⟩
    case round =>
      obtain ⟨care, hc, rfl, HO1, HB1⟩ := hrel
      by_cases hcp : care < P
      · have hc64 : care < 64 := by omega
        go_wp2
        try rw [hsh]
        clear hsh
        have HHS : Hid (wrap64 ((2 : Int) ^ n) = (P : Int)) := Lib.hid HSH.out
        go_loopw [7, 9, 10, 11, 12] (fun v vl _ _ _ wv => ∃ val : Nat, val ≤ P ∧ vl = .int .i64 val ∧ Hid (∃ A c, v = .slice A (prUp t n P care val).length c ∧ wv.ownsRow w.heap.size 57 2 (.slice A (prUp t n P care val).length c) (prUp t n P care val).length (cbs (prUp t n P care val))) ∧ Hid (Below w.heap.size w wv)) (fun _ vl _ _ _ _ => P - (intOf vl).toNat)
        case atStart => exact ⟨0, Nat.zero_le _, rfl, HO1, HB1⟩
        case round =>
          obtain ⟨val, hvl, rfl, HO2, HB2⟩ := hrel
          have hsh := HHS.out
          by_cases hvp : val < P
          · have hv64 : val < 64 := by omega
            have hov : (bits .andNot .i64 (val : Int) (care : Int) != 0) = !decide (val &&& care = val) := over_all ⟨val, hv64⟩ ⟨care, hc64⟩
            have HPE := Lib.hid (prime_eq (t := t) (n := n) (care := care) (val := val) (by rw [HP.out]; exact hcp))
            by_cases hvc : val &&& care = val
            · rw [decide_eq_true hvc] at hov HPE
              have HVC := Lib.hid hvc
              have HIN := Lib.hid (fun W => inside_any t n care val ht hn6 hc64 hv64 W)
              clear hvc
              cases hib : insideB t n care val
              · rw [hib] at HIN HPE
                have HOUT2 : Hid (prUp t n P care (val + 1) = prUp t n P care val) := Lib.hid (prUp_miss (by rw [HPE.out]; rfl))
                clear hib HPE
                go_wp2_with fail
                refine (HIN.out _).mono ?_
                rintro e w3 ⟨rfl, hb3⟩
                have HB3 : Hid (Below w.heap.size w w3) := Lib.hid (HB2.out.trans (hb3.mono HB2.out.size))
                have HO3 : Hid (∃ A c, u7 = .slice A (prUp t n P care (val + 1)).length c ∧ w3.ownsRow w.heap.size 57 2 (.slice A (prUp t n P care (val + 1)).length c) (prUp t n P care (val + 1)).length (cbs (prUp t n P care (val + 1)))) := Lib.hid (by
                  rw [HOUT2.out]
                  obtain ⟨A, c, e, h⟩ := HO2.out
                  exact ⟨A, c, e, own_keep1 h (fun g hg => hb3.block g (h.lt g hg).2)⟩)
                clear hb3
                go_wp2
                go_roundw
                case rel => exact ⟨val + 1, by omega, by go_num, HO3, HB3⟩
                case measure => simp [intOf]; omega
              · have HINS := Lib.hid hib
                rw [hib] at HIN
                clear hib HPE
                go_wp2_with fail
                refine (HIN.out _).mono ?_
                rintro e w3 ⟨rfl, hb3⟩
                have HB3 : Hid (Below w.heap.size w w3) := Lib.hid (HB2.out.trans (hb3.mono HB2.out.size))
                have HO3 : Hid (∃ A c, u7 = .slice A (prUp t n P care val).length c ∧ w3.ownsRow w.heap.size 57 2 (.slice A (prUp t n P care val).length c) (prUp t n P care val).length (cbs (prUp t n P care val))) := Lib.hid (by
                  obtain ⟨A, c, e, h⟩ := HO2.out
                  exact ⟨A, c, e, own_keep1 h (fun g hg => hb3.block g (h.lt g hg).2)⟩)
                clear hb3 HIN HO2 HB2 hov
                go_wp2
                try rw [hsh]
                clear hsh
                go_loopw [10, 11, 12] (fun pr i _ wr => ∃ i' : Nat, i' ≤ n ∧ i = .int .i64 i' ∧ pr = .bool (prK t n care val i') ∧ Hid (Below w3.heap.size w3 wr)) (fun _ i _ _ => n - (intOf i).toNat)
                case atStart => exact ⟨0, Nat.zero_le _, rfl, rfl, Lib.hid (Below.refl _ _)⟩
                case round =>
                  obtain ⟨i, hi, rfl, rfl, HBI⟩ := hrel
                  by_cases hin : i < n
                  · have hbB : wrap64 ((2 : Int) ^ i) = ((2 ^ i : Nat) : Int) := wrap_pow9 (by omega)
                    have hlo : (bits .and .i64 (care : Int) ((2 ^ i : Nat) : Int) != 0) = care.testBit i := low_and ⟨care, hc64⟩ ⟨i, by omega⟩
                    obtain ⟨_, hca, _, hcl⟩ := flp_cb (x := care) (j := i) hc64 (by omega)
                    obtain ⟨_, hva, _, hvl⟩ := flp_cb (x := val) (j := i) hv64 (by omega)
                    have HKS := Lib.hid (prK_succ t n care val i)
                    have HIN := Lib.hid (fun W => inside_any t n (clr care i) (clr val i) ht hn6 hcl hvl W)
                    generalize clr care i = cc at *
                    generalize clr val i = cv at *
                    generalize (2 ^ i : Nat) = B at *
                    generalize insideB t n cc cv = ib at *
                    have HPK : Hid (prK t n care val (i + 1) = (prK t n care val i && (!(care.testBit i) || !ib))) := HKS
                    clear HKS hcl hvl
                    cases hb : care.testBit i
                    · rw [hb] at hlo HPK
                      have HPK2 : Hid (prK t n care val (i + 1) = prK t n care val i) := Lib.hid (by rw [HPK.out]; simp)
                      clear hb HPK
                      go_wp2
                      go_roundw
                      case rel => exact ⟨i + 1, by omega, by go_num, by rw [HPK2.out], HBI⟩
                      case measure => simp [intOf]; omega
                    · rw [hb] at hlo HPK
                      clear hb
                      cases ib
                      · have HPK2 : Hid (prK t n care val (i + 1) = prK t n care val i) := Lib.hid (by rw [HPK.out]; simp)
                        clear HPK
                        go_wp2_with fail
                        refine (HIN.out _).mono ?_
                        rintro e w9 ⟨rfl, hb3⟩
                        have HB9 := Lib.hid (HBI.out.trans (hb3.mono HBI.out.size))
                        clear hb3
                        go_wp2
                        go_roundw
                        case rel => exact ⟨i + 1, by omega, by go_num, by rw [HPK2.out], HB9⟩
                        case measure => simp [intOf]; omega
                      · have HPK2 : Hid (prK t n care val (i + 1) = false) := Lib.hid (by rw [HPK.out]; simp)
                        clear HPK
                        go_wp2_with fail
                        refine (HIN.out _).mono ?_
                        rintro e w9 ⟨rfl, hb3⟩
                        have HB9 := Lib.hid (HBI.out.trans (hb3.mono HBI.out.size))
                        clear hb3
                        go_wp2
                        go_roundw
                        case rel => exact ⟨i + 1, by omega, by go_num, by rw [HPK2.out], HB9⟩
                        case measure => simp [intOf]; omega
                  · have hin2 : i = n := by omega
                    subst hin2
                    have HPE := Lib.hid (prime_eq (t := t) (n := i) (care := care) (val := val) (by rw [HP.out]; exact hcp))
                    rw [decide_eq_true HVC.out, HINS.out] at HPE
                    have HBN : Hid (Below w.heap.size w wr) := Lib.hid (HB3.out.trans (HBI.out.mono HB3.out.size))
                    have HON : Hid (∃ A c, u7 = .slice A (prUp t i P care val).length c ∧ wr.ownsRow w.heap.size 57 2 (.slice A (prUp t i P care val).length c) (prUp t i P care val).length (cbs (prUp t i P care val))) := Lib.hid (by
                      obtain ⟨A, c, e, h⟩ := HO3.out
                      exact ⟨A, c, e, own_keep1 h (fun g hg => HBI.out.block g (h.lt g hg).2)⟩)
                    clear hin HBI HO3
                    cases hpk : prK t i care val i
                    · have HOUT2 : Hid (prUp t i P care (val + 1) = prUp t i P care val) := Lib.hid (prUp_miss (by rw [HPE.out, hpk]; rfl))
                      clear hpk HPE
                      go_wp2
                      go_roundw
                      case rel => exact ⟨val + 1, by omega, by go_num, by rw [HOUT2.out]; exact HON, HBN⟩
                      case measure => simp [intOf]; omega
                    · have HOUT2 : Hid (prUp t i P care (val + 1) = prUp t i P care val ++ [(care, val)]) := Lib.hid (prUp_hit (by rw [HPE.out, hpk]; rfl))
                      obtain ⟨A, c, rfl, hO⟩ := HON.out
                      have HO9 := Lib.hid hO
                      have hlen := prUp_len (t := t) (n := i) (P := P) (care := care) (val := val) hP64 (by omega) (by omega)
                      have hszb := HBN.out.size
                      clear hpk HPE HON
                      generalize prUp t i P care val = l at *
                      go_wp2_with (at_builtin; refine wpList_append_own _ rfl _ _ 47 rfl w.heap.size 57 i0 (.agg #[.int .i64 0, .int .i64 0]) 2 16 Tryd.underlying47 hi0 hz0 hz1 hz2 rfl (by decide) _ _ _ rfl (hO.alloc _) ⟨wr.heap.size, 0, none⟩ 1 1 [.int .i64 (care : Int), .int .i64 (val : Int)] rfl rfl ?k1 ?k2 ?k3 ?k4 ?k5 ?_)
                      case k1 =>
                        intro j' u hj'
                        match j', hj' with
                        | 0, hj' => simp at hj'; subst hj'; simp [Addr.add]
                        | 1, hj' => simp at hj'; subst hj'; simp [Addr.add]
                      case k2 => intro u hu; simp at hu; rcases hu with rfl | rfl <;> rfl
                      case k3 => unfold maxLen; omega
                      case k4 => omega
                      case k5 => simp; omega
                      intro v' w5 hown' hgrow _
                      obtain ⟨A5, c5, rfl⟩ := own_sl hown'
                      have HO5 : Hid (∃ A c, (Value.slice A5 (l.length + 1) c5) = .slice A (prUp t i P care (val + 1)).length c ∧ w5.ownsRow w.heap.size 57 2 (.slice A (prUp t i P care (val + 1)).length c) (prUp t i P care (val + 1)).length (cbs (prUp t i P care (val + 1)))) := Lib.hid (by
                        rw [HOUT2.out, List.length_append, cbs_append]
                        exact ⟨_, _, rfl, hown'⟩)
                      have HB5 : Hid (Below w.heap.size w w5) := Lib.hid ((HBN.out.alloc HBN.out.size _).grown hgrow (by simp; omega) (fun g hg => (HO9.out.lt g hg).1))
                      clear hown' hgrow hO
                      go_wp2
                      go_roundw
                      case rel => exact ⟨val + 1, by omega, by go_num, HO5, HB5⟩
                      case measure => simp [intOf]; omega
            · rw [decide_eq_false hvc] at hov HPE
              have HOUT2 : Hid (prUp t n P care (val + 1) = prUp t n P care val) := Lib.hid (prUp_miss (by rw [HPE.out]; rfl))
              clear hvc HPE
              go_wp2
              go_roundw
              case rel => exact ⟨val + 1, by omega, by go_num, by rw [HOUT2.out]; exact HO2, HB2⟩
              case measure => simp [intOf]; omega
          · have hvP : P = val := by omega
            subst hvP
            have HR := Lib.hid (prUp_row t n P care)
            clear hvp
            go_wp2
            go_roundw
            case rel => exact ⟨care + 1, by omega, by go_num, by rw [← HR.out]; exact HO2, HB2⟩
            case measure => simp [intOf]; omega
      · have hcP : P = care := by omega
        subst hcP
        obtain ⟨A, c, rfl, hO⟩ := HO1.out
        have HO := Lib.hid hO
        clear hO HO1 hcp
        go_wp2
        go_ret2
        exact ⟨_, _, rfl, HO.out, HB1.out⟩
  · rw [if_neg hz]
    have hz1 : (chkT t n != 0) = true := by simpa using hz
    generalize chkT t n = z at *
    clear hz
    go_enter Tryd.func40, Tryd.ntmps40
    go_wp2_with fail
    refine (HV.out).mono ?_
    rintro e w1 ⟨rfl, rfl⟩
    go_wp2
    go_ret2
    exact ⟨none, 0, rfl, World.ownsRow_nil _ _ _ _, Below.refl _ _⟩
end Go.Proofs.YtkkkomkljpolbaaDoor
