/- Layer 13: a list of words repeated. -/
import Derived.Test.YtofclgapgjcflaaDoorDt
import Derived.Deep.RegionLaw
import Derived.Laws.CopyOwn
namespace Go.Proofs.YtofclgapgjcflaaDoor
open Go.RowKit Go.Proofs.Ws
set_option maxRecDepth 100000
theorem low_and (n : Nat) (hn : n ≤ 64) : bits .and .u64 (n : Int) 4294967295 = (n : Int) := by
  rw [show (4294967295 : Int) = ((4294967295 : Nat) : Int) from rfl, u64_and_nat _ _ (by omega) (by decide), show (4294967295 : Nat) = 2 ^ 32 - 1 from by decide, Nat.and_two_pow_sub_one_eq_mod, Nat.mod_eq_of_lt (by omega)]
theorem mul64_any (n : Nat) (w : World) (hn : n ≤ 64) :
    Calls Tryd.prog 61 #[.int .u64 1, .int .u64 (n : Int)] w fun e w' => e = .returned (.tuple #[.int .u64 0, .int .u64 (n : Int)]) ∧ w = w' := by
  have h1 := low_and n hn
  have h2 : bits .and .u64 1 4294967295 = 1 := by decide
  have h3 : (n : Int) / 4294967296 = 0 := Int.ediv_eq_zero_of_lt (by omega) (by omega)
  have h4 : IntKind.u64.wrap (n : Int) = (n : Int) := by rw [IntKind.wrap_u64]; omega
  have h5 : (1 : Int) / 4294967296 = 0 := by decide
  have h6 : bits .and .u64 0 4294967295 = 0 := by decide
  go_enter Tryd.func61, Tryd.ntmps61
  go_wp2
  go_ret2
  exact ⟨rfl, rfl⟩
theorem mul_any (n : Nat) (w : World) (hn : n ≤ 64) :
    Calls Tryd.prog 59 #[.int .u64 1, .int .u64 (n : Int)] w fun e w' => e = .returned (.tuple #[.int .u64 0, .int .u64 (n : Int)]) ∧ w = w' := by
  have HM := Lib.hid (mul64_any n w hn)
  go_enter Tryd.func59, Tryd.ntmps59
  go_wp2_with fail
  refine (HM.out).mono ?_
  rintro e w1 ⟨rfl, rfl⟩
  go_wp2
  go_ret2
  exact ⟨rfl, rfl⟩
/-- the first k are x -/
def repK (x n k : Nat) : List Nat := List.replicate k x ++ List.replicate (n - k) 0
theorem repK_len (x n k : Nat) (h : k ≤ n) : (repK x n k).length = n := by simp [repK]; omega
theorem repK_zero (x n : Nat) : repK x n 0 = List.replicate n 0 := by simp [repK]
theorem repK_full (x n : Nat) : repK x n n = List.replicate n x := by simp [repK]
theorem repK_get {x n k j : Nat} (h : j < k) : (repK x n k).getD j 0 = x := by
  unfold repK
  rw [List.getD_eq_getElem?_getD, List.getElem?_append_left (by simpa using h), List.getElem?_replicate, if_pos h]; rfl
theorem repK_splice {x n k m : Nat} (_h : k + m ≤ n) : splice (us (repK x n k)) k (us (List.replicate m x)) = us (repK x n (k + m)) := by
  unfold splice repK us
  simp only [List.map_append, List.map_replicate]
  have e1 : (List.replicate k (Value.int .u64 (x : Int)) ++ List.replicate (n - k) (Value.int .u64 ((0 : Nat) : Int))).take k = List.replicate k (Value.int .u64 (x : Int)) := by
    rw [List.take_append_of_le_length (by simp), List.take_of_length_le (by simp)]
  have e2 : (List.replicate k (Value.int .u64 (x : Int)) ++ List.replicate (n - k) (Value.int .u64 ((0 : Nat) : Int))).drop (k + (List.replicate m (Value.int .u64 (x : Int))).length) = List.replicate (n - (k + m)) (Value.int .u64 ((0 : Nat) : Int)) := by
    rw [List.drop_append, List.drop_of_length_le (by simp)]
    simp
    omega
  rw [e1, e2, ← List.append_assoc]
  simp
set_option maxHeartbeats 4000000 in
theorem pRepeat_any (x n g0 : Nat) (w : World) (hn : n ≤ 64) (h1 : 1 ≤ n) (hg : g0 < w.heap.size) (hc : w.cell? ⟨g0, 0, none⟩ = some (.int .u64 (x : Int))) :
    Calls Tryd.prog 58 #[.slice (some ⟨g0, 0, none⟩) 1 1, .int .i64 (n : Int)] w fun e w' => e = .returned (.slice (some ⟨w.heap.size, 0, none⟩) n n) ∧ HoldsU w' w.heap.size (List.replicate n x) ∧ Below w.heap.size w w' := by
  obtain ⟨i0, hi, hz0, hz1, hz2⟩ := info_parts Tryd.infoU
  have HM := Lib.hid (mul_any n w hn)
  have hmk := makeU w n (by omega)
  have HN0 := Lib.hid (HoldsU.made w (List.replicate n 0))
  have HB0 : Hid (Below w.heap.size w (w.alloc (.cells (us (List.replicate n 0)).toArray 31))) := Lib.hid ((Below.refl _ w).alloc (Nat.le_refl _) _)
  have hw1 : (w.alloc (.cells (us (List.replicate n 0)).toArray 31)).cell? ⟨g0, 0, none⟩ = some (.int .u64 (x : Int)) := (HB0.out.cell (p := ⟨g0, 0, none⟩) hg).trans hc
  have d0 : decide ((n : Int) < 0) = false := decide_eq_false (by omega)
  have hw2 : IntKind.i64.wrap (n : Int) = (n : Int) := by rw [IntKind.wrap_i64]; omega
  have hw3 : IntKind.u64.wrap (n : Int) = (n : Int) := by rw [IntKind.wrap_u64]; omega
  have d1 : decide ((9223372036854775807 : Int) < (n : Int)) = false := decide_eq_false (by omega)
  clear hw1
  go_enter Tryd.func58, Tryd.ntmps58
  go_wp2_with fail
  refine (HM.out).mono ?_
  rintro e w1 ⟨rfl, rfl⟩
  go_wp2_with (refine wpList_copy_splice rfl _ _ 22 22 rfl 31 Tryd.underlying22 (by rw [hi]; exact congrArg some hz1) _ _ _ _ _ _ rfl rfl w.heap.size 0 (us (List.replicate n 0)) 31 HN0.out (us [x]) ?c1 ?c2 ?c3 ?c4 w.heap.size w HB0.out (Nat.le_refl _) ?_)
  case c1 => first | (rw [us_length]; show 1 = min 1 n; omega) | (rw [us_length]; show _ = min 1 n; simp; omega)
  case c2 =>
    intro _ j u hj
    cases j with
    | zero => simp [us] at hj; subst hj; exact hc
    | succ j => simp [us] at hj
  case c3 => simp [us_length]; omega
  case c4 => exact us_oneCell _
  intro w2 HG2 hB2
  have HG : Hid (HoldsU w2 w.heap.size (repK x n 1)) := Lib.hid (by
    have := HG2.out
    rw [show us [x] = us (List.replicate 1 x) from rfl, ← repK_zero x n, repK_splice (by omega)] at this
    exact this)
  have HB := Lib.hid hB2
  clear HG2 hB2 hmk hc HN0 HB0
  go_wp2
  go_loopw [8] (fun u8 wr => ∃ k : Nat, 1 ≤ k ∧ k ≤ n ∧ u8 = .int .i64 k ∧ Hid (HoldsU wr w.heap.size (repK x n k)) ∧ Hid (Below w.heap.size w wr)) (fun u8 _ => n - (intOf u8).toNat)
  case atStart => exact ⟨1, Nat.le_refl _, h1, rfl, HG, HB⟩
  case round =>
    obtain ⟨k, hk1, hk, rfl, HK, HBk⟩ := hrel
    by_cases hlt : k < n
    · obtain ⟨m, hm⟩ : ∃ m, m = Nat.min k (n - k) := ⟨_, rfl⟩
      have hm1 : 1 ≤ m := by rw [hm]; show 1 ≤ min k (n - k); omega
      have hm2 : k + m ≤ n := by rw [hm]; show k + min k (n - k) ≤ n; omega
      have HM2 := Lib.hid hm
      have HCE : Hid (∀ j u, (us (List.replicate m x))[j]? = some u → wr.cell? ((⟨w.heap.size, 0, none⟩ : Addr).add j) = some u) := Lib.hid (fun j u hu => by
        have hj : j < m := by
          have := (List.getElem?_eq_some_iff.1 hu).1
          rw [us_length] at this
          simpa using this
        have hkm : m ≤ k := by rw [hm]; exact Nat.min_le_left _ _
        have h9 := HK.out.cell j (by rw [repK_len x n k hk]; omega)
        rw [repK_get (by omega)] at h9
        unfold us at hu
        rw [List.getElem?_map, List.getElem?_replicate, if_pos hj] at hu
        simp at hu
        subst hu
        rw [addr0]
        exact h9)
      clear hm
      go_wp2_with fail
      have HKd : Hid (wr.drew.heap[w.heap.size]? = some (.cells (us (repK x n k)).toArray 31 (0, 0))) := Lib.hid HK.out
      have HCd : Hid (∀ j u, (us (List.replicate m x))[j]? = some u → wr.drew.cell? ((⟨w.heap.size, 0, none⟩ : Addr).add j) = some u) := Lib.hid HCE.out
      have HBd := Lib.hid HBk.out.drew
      have hsz1 : (Tryd.prog.info? 31).map (·.size) = some 1 := by rw [hi]; exact congrArg some hz1
      have hl1 : (us (List.replicate m x)).length = Nat.min k (n - k) := by rw [us_length, List.length_replicate]; exact HM2.out
      have hl2 : k + (us (List.replicate m x)).length ≤ (us (repK x n k)).length := by rw [us_length, us_length, repK_len x n k hk, List.length_replicate]; exact hm2
      have hl3 := us_oneCell (List.replicate m x)
      have HL1 := Lib.hid hl1
      have HL2 := Lib.hid hl2
      have HL3 := Lib.hid hl3
      have HSZ := Lib.hid hsz1
      clear hl1 hl2 hl3 hsz1
      have HIF : Hid (0 < (us (List.replicate m x)).length → (if n = k then some (⟨w.heap.size, 0, none⟩ : Addr) else some ⟨w.heap.size, k, none⟩) = some ⟨w.heap.size, k, none⟩ ∧ ∃ ad, some (⟨w.heap.size, 0, none⟩ : Addr) = some ad ∧ ∀ j v, (us (List.replicate m x))[j]? = some v → wr.drew.cell? (ad.add j) = some v) := Lib.hid (fun _ => ⟨if_neg (by omega), _, rfl, HCd.out⟩)
      go_region_law (refine step_copy_splice (by rfl) (.tmp 41) (.tmp 44) 22 22 (by rfl) 31 Tryd.underlying22 HSZ.out (if n = k then some (⟨w.heap.size, 0, none⟩ : Addr) else some ⟨w.heap.size, k, none⟩) (some ⟨w.heap.size, 0, none⟩) (n - k) (n - k) k n (by go_simp) (by go_simp) w.heap.size k (us (repK x n k)) 31 HKd.out (us (List.replicate m x)) HL1.out HIF.out HL2.out HL3.out w.heap.size w HBd.out (Nat.le_refl _) ?_; intro w4 HG4 hb4)
      have HJ : Hid (HoldsU w4 w.heap.size (repK x n (k + m))) := Lib.hid (by
        have := HG4.out
        rw [repK_splice hm2] at this
        exact this)
      have HB4 := Lib.hid hb4
      have HLm : Hid ((us (List.replicate m x)).length = m) := Lib.hid (by rw [us_length, List.length_replicate])
      clear HG4 hb4
      rw [HLm.out]
      clear HLm
      have hwk : IntKind.i64.wrap ((k : Int) + (m : Int)) = (k : Int) + (m : Int) := by rw [IntKind.wrap_i64]; omega
      go_wp2
      go_roundw
      case rel => exact ⟨k + m, by omega, hm2, by omega, HJ⟩
      case measure => simp [intOf]; omega
    · obtain rfl : n = k := by omega
      clear hlt
      go_wp2
      go_ret
      refine ⟨rfl, ?_, HBk.out⟩
      have := HK.out
      rw [repK_full] at this
      exact this
end Go.Proofs.YtofclgapgjcflaaDoor
