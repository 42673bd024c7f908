/- Layer 6: texts joined: Dw Dx. -/
import Derived.Test.YtjpmhbnikoggaaaDoorNIj
import Derived.Deep.RegionLaw
import Derived.Laws.CopyOwn
/- Layer 13: a list of words repeated. -/
namespace Go.Proofs.YtjpmhbnikoggaaaDoor
open Go.RowKit Go.Proofs.Ws
set_option maxRecDepth 100000
theorem us_oneCell (l : List Nat) : ∀ u ∈ us l, u.oneCell' = true := by
  intro u hu
  unfold us at hu
  obtain ⟨x, _, rfl⟩ := List.mem_map.1 hu
  rfl
theorem low_and (n : Nat) (hn : n ≤ 64) : bits .and .u64 (n : Int) 4294967295 = (n : Int) := by
  rw [show (4294967295 : Int) = ((4294967295 : Nat) : Int) from rfl, u64_and_nat _ _ (by omega) (by decide), show (4294967295 : Nat) = 2 ^ 32 - 1 from by decide, Nat.and_two_pow_sub_one_eq_mod, Nat.mod_eq_of_lt (by omega)]
theorem mul64_any (n : Nat) (w : World) (hn : n ≤ 64) :
    Calls Tryd.prog 108 #[.int .u64 1, .int .u64 (n : Int)] w fun e w' => e = .returned (.tuple #[.int .u64 0, .int .u64 (n : Int)]) ∧ w = w' := by
  have h1 := low_and n hn
  have h2 : bits .and .u64 1 4294967295 = 1 := by decide
  have h3 : (n : Int) / 4294967296 = 0 := Int.ediv_eq_zero_of_lt (by omega) (by omega)
  have h4 : IntKind.u64.wrap (n : Int) = (n : Int) := by rw [IntKind.wrap_u64]; omega
  have h5 : (1 : Int) / 4294967296 = 0 := by decide
  have h6 : bits .and .u64 0 4294967295 = 0 := by decide
  go_enter Tryd.func108, Tryd.ntmps108
  go_wp2
  go_ret2
  exact ⟨rfl, rfl⟩
theorem mul_any (n : Nat) (w : World) (hn : n ≤ 64) :
    Calls Tryd.prog 104 #[.int .u64 1, .int .u64 (n : Int)] w fun e w' => e = .returned (.tuple #[.int .u64 0, .int .u64 (n : Int)]) ∧ w = w' := by
  have HM := Lib.hid (mul64_any n w hn)
  go_enter Tryd.func104, Tryd.ntmps104
  go_wp2_with fail
  refine (HM.out).mono ?_
  rintro e w1 ⟨rfl, rfl⟩
  go_wp2
  go_ret2
  exact ⟨rfl, rfl⟩
/-- the first k are x -/
def repK (x n k : Nat) : List Nat := List.replicate k x ++ List.replicate (n - k) 0
theorem repK_len (x n k : Nat) (h : k ≤ n) : (repK x n k).length = n := by simp [repK]; omega
theorem repK_zero (x n : Nat) : repK x n 0 = List.replicate n 0 := by simp [repK]
theorem repK_full (x n : Nat) : repK x n n = List.replicate n x := by simp [repK]
theorem repK_get {x n k j : Nat} (h : j < k) : (repK x n k).getD j 0 = x := by
  unfold repK
  rw [List.getD_eq_getElem?_getD, List.getElem?_append_left (by simpa using h), List.getElem?_replicate, if_pos h]; rfl
theorem repK_splice {x n k m : Nat} (_h : k + m ≤ n) : splice (us (repK x n k)) k (us (List.replicate m x)) = us (repK x n (k + m)) := by
  unfold splice repK us
  simp only [List.map_append, List.map_replicate]
  have e1 : (List.replicate k (Value.int .u64 (x : Int)) ++ List.replicate (n - k) (Value.int .u64 ((0 : Nat) : Int))).take k = List.replicate k (Value.int .u64 (x : Int)) := by
    rw [List.take_append_of_le_length (by simp), List.take_of_length_le (by simp)]
  have e2 : (List.replicate k (Value.int .u64 (x : Int)) ++ List.replicate (n - k) (Value.int .u64 ((0 : Nat) : Int))).drop (k + (List.replicate m (Value.int .u64 (x : Int))).length) = List.replicate (n - (k + m)) (Value.int .u64 ((0 : Nat) : Int)) := by
    rw [List.drop_append, List.drop_of_length_le (by simp)]
    simp
    omega
  rw [e1, e2, ← List.append_assoc]
  simp
set_option maxHeartbeats 4000000 in
theorem pRepeat_any (x n g0 : Nat) (w : World) (hn : n ≤ 64) (h1 : 1 ≤ n) (hg : g0 < w.heap.size) (hc : w.cell? ⟨g0, 0, none⟩ = some (.int .u64 (x : Int))) :
    Calls Tryd.prog 100 #[.slice (some ⟨g0, 0, none⟩) 1 1, .int .i64 (n : Int)] w fun e w' => e = .returned (.slice (some ⟨w.heap.size, 0, none⟩) n n) ∧ HoldsU w' w.heap.size (List.replicate n x) ∧ Below w.heap.size w w' := by
  obtain ⟨i0, hi, hz0, hz1, hz2⟩ := info_parts Tryd.infoU
  have HM := Lib.hid (mul_any n w hn)
  have hmk := makeU w n (by omega)
  have HN0 := Lib.hid (HoldsU.made w (List.replicate n 0))
  have HB0 : Hid (Below w.heap.size w (w.alloc (.cells (us (List.replicate n 0)).toArray 31))) := Lib.hid ((Below.refl _ w).alloc (Nat.le_refl _) _)
  have hw1 : (w.alloc (.cells (us (List.replicate n 0)).toArray 31)).cell? ⟨g0, 0, none⟩ = some (.int .u64 (x : Int)) := (HB0.out.cell (p := ⟨g0, 0, none⟩) hg).trans hc
  have d0 : decide ((n : Int) < 0) = false := decide_eq_false (by omega)
  have hw2 : IntKind.i64.wrap (n : Int) = (n : Int) := by rw [IntKind.wrap_i64]; omega
  have hw3 : IntKind.u64.wrap (n : Int) = (n : Int) := by rw [IntKind.wrap_u64]; omega
  have d1 : decide ((9223372036854775807 : Int) < (n : Int)) = false := decide_eq_false (by omega)
  clear hw1
  go_enter Tryd.func100, Tryd.ntmps100
  go_wp2_with fail
  refine (HM.out).mono ?_
  rintro e w1 ⟨rfl, rfl⟩
  go_wp2_with (refine wpList_copy_splice rfl _ _ 22 22 rfl 31 Tryd.underlying22 (by rw [hi]; exact congrArg some hz1) _ _ _ _ _ _ rfl rfl w.heap.size 0 (us (List.replicate n 0)) 31 HN0.out (us [x]) ?c1 ?c2 ?c3 ?c4 w.heap.size w HB0.out (Nat.le_refl _) ?_)
  case c1 => first | (rw [us_length]; show 1 = min 1 n; omega) | (rw [us_length]; show _ = min 1 n; simp; omega)
  case c2 =>
    intro _ j u hj
    cases j with
    | zero => simp [us] at hj; subst hj; exact hc
    | succ j => simp [us] at hj
  case c3 => simp [us_length]; omega
  case c4 => exact us_oneCell _
  intro w2 HG2 hB2
  have HG : Hid (HoldsU w2 w.heap.size (repK x n 1)) := Lib.hid (by
    have := HG2.out
    rw [show us [x] = us (List.replicate 1 x) from rfl, ← repK_zero x n, repK_splice (by omega)] at this
    exact this)
  have HB := Lib.hid hB2
  clear HG2 hB2 hmk hc HN0 HB0
  go_wp2
  go_loopw [8] (fun u8 wr => ∃ k : Nat, 1 ≤ k ∧ k ≤ n ∧ u8 = .int .i64 k ∧ Hid (HoldsU wr w.heap.size (repK x n k)) ∧ Hid (Below w.heap.size w wr)) (fun u8 _ => n - (intOf u8).toNat)
  case atStart => exact ⟨1, Nat.le_refl _, h1, rfl, HG, HB⟩
  case round =>
    obtain ⟨k, hk1, hk, rfl, HK, HBk⟩ := hrel
    by_cases hlt : k < n
    · obtain ⟨m, hm⟩ : ∃ m, m = Nat.min k (n - k) := ⟨_, rfl⟩
      have hm1 : 1 ≤ m := by rw [hm]; show 1 ≤ min k (n - k); omega
      have hm2 : k + m ≤ n := by rw [hm]; show k + min k (n - k) ≤ n; omega
      have HM2 := Lib.hid hm
      have HCE : Hid (∀ j u, (us (List.replicate m x))[j]? = some u → wr.cell? ((⟨w.heap.size, 0, none⟩ : Addr).add j) = some u) := Lib.hid (fun j u hu => by
        have hj : j < m := by
          have := (List.getElem?_eq_some_iff.1 hu).1
          rw [us_length] at this
          simpa using this
        have hkm : m ≤ k := by rw [hm]; exact Nat.min_le_left _ _
        have h9 := HK.out.cell j (by rw [repK_len x n k hk]; omega)
        rw [repK_get (by omega)] at h9
        unfold us at hu
        rw [List.getElem?_map, List.getElem?_replicate, if_pos hj] at hu
        simp at hu
        subst hu
        rw [addr0]
        exact h9)
      clear hm
      go_wp2_with fail
      have HKd : Hid (wr.drew.heap[w.heap.size]? = some (.cells (us (repK x n k)).toArray 31 (0, 0))) := Lib.hid HK.out
      have HCd : Hid (∀ j u, (us (List.replicate m x))[j]? = some u → wr.drew.cell? ((⟨w.heap.size, 0, none⟩ : Addr).add j) = some u) := Lib.hid HCE.out
      have HBd := Lib.hid HBk.out.drew
      have hsz1 : (Tryd.prog.info? 31).map (·.size) = some 1 := by rw [hi]; exact congrArg some hz1
      have hl1 : (us (List.replicate m x)).length = Nat.min k (n - k) := by rw [us_length, List.length_replicate]; exact HM2.out
      have hl2 : k + (us (List.replicate m x)).length ≤ (us (repK x n k)).length := by rw [us_length, us_length, repK_len x n k hk, List.length_replicate]; exact hm2
      have hl3 := us_oneCell (List.replicate m x)
      have HL1 := Lib.hid hl1
      have HL2 := Lib.hid hl2
      have HL3 := Lib.hid hl3
      have HSZ := Lib.hid hsz1
      clear hl1 hl2 hl3 hsz1
      have HIF : Hid (0 < (us (List.replicate m x)).length → (if n = k then some (⟨w.heap.size, 0, none⟩ : Addr) else some ⟨w.heap.size, k, none⟩) = some ⟨w.heap.size, k, none⟩ ∧ ∃ ad, some (⟨w.heap.size, 0, none⟩ : Addr) = some ad ∧ ∀ j v, (us (List.replicate m x))[j]? = some v → wr.drew.cell? (ad.add j) = some v) := Lib.hid (fun _ => ⟨if_neg (by omega), _, rfl, HCd.out⟩)
      go_region_law (refine step_copy_splice (by rfl) (.tmp 41) (.tmp 44) 22 22 (by rfl) 31 Tryd.underlying22 HSZ.out (if n = k then some (⟨w.heap.size, 0, none⟩ : Addr) else some ⟨w.heap.size, k, none⟩) (some ⟨w.heap.size, 0, none⟩) (n - k) (n - k) k n (by go_simp) (by go_simp) w.heap.size k (us (repK x n k)) 31 HKd.out (us (List.replicate m x)) HL1.out HIF.out HL2.out HL3.out w.heap.size w HBd.out (Nat.le_refl _) ?_; intro w4 HG4 hb4)
      have HJ : Hid (HoldsU w4 w.heap.size (repK x n (k + m))) := Lib.hid (by
        have := HG4.out
        rw [repK_splice hm2] at this
        exact this)
      have HB4 := Lib.hid hb4
      have HLm : Hid ((us (List.replicate m x)).length = m) := Lib.hid (by rw [us_length, List.length_replicate])
      clear HG4 hb4
      rw [HLm.out]
      clear HLm
      have hwk : IntKind.i64.wrap ((k : Int) + (m : Int)) = (k : Int) + (m : Int) := by rw [IntKind.wrap_i64]; omega
      go_wp2
      go_roundw
      case rel => exact ⟨k + m, by omega, hm2, by omega, HJ⟩
      case measure => simp [intOf]; omega
    · obtain rfl : n = k := by omega
      clear hlt
      go_wp2
      go_ret
      refine ⟨rfl, ?_, HBk.out⟩
      have := HK.out
      rw [repK_full] at this
      exact this
end Go.Proofs.YtjpmhbnikoggaaaDoor
/- Layer 13: the relations of a group, by the program. -/
namespace Go.Proofs.YtjpmhbnikoggaaaDoor
open Go.RowKit Go.Proofs.Ws
set_option maxRecDepth 100000
/-- a row under way: the first j worlds have seen one agent more -/
def mixG (F : Nat → Nat → Nat) (n k j : Nat) : List Nat := (List.range n).map (fun w => if w < j then F (k + 1) w else F k w)
theorem mixG_len (F : Nat → Nat → Nat) (n k j : Nat) : (mixG F n k j).length = n := by simp [mixG]
theorem mixG_zero (F : Nat → Nat → Nat) (n k : Nat) : mixG F n k 0 = (List.range n).map (F k) := by simp [mixG]
theorem mixG_full (F : Nat → Nat → Nat) (n k : Nat) : mixG F n k n = (List.range n).map (F (k + 1)) := by
  unfold mixG
  apply List.map_congr_left
  intro w hw
  rw [if_pos (List.mem_range.1 hw)]
theorem mixG_get {F : Nat → Nat → Nat} {n k j : Nat} (h : j < n) : (mixG F n k j).getD j 0 = F k j := by
  simp [mixG, h]
theorem mixG_set {F : Nat → Nat → Nat} {n k j : Nat} (_h : j < n) {x : Nat} (hx : x = F (k + 1) j) : (mixG F n k j).set j x = mixG F n k (j + 1) := by
  subst hx
  unfold mixG
  apply List.ext_getElem (by simp)
  intro i h1 h2
  rw [List.getElem_set]
  simp only [List.getElem_map, List.getElem_range]
  by_cases e : j = i
  · subst e
    rw [if_pos rfl, if_pos (by omega)]
  · rw [if_neg e]
    by_cases h3 : i < j
    · rw [if_pos h3, if_pos (by omega)]
    · rw [if_neg h3, if_neg (by omega)]
theorem bit_even {g k : Nat} (hg : g < 18446744073709551616) : bits .and .i64 ((g : Int) / 2 ^ k) 1 = if g.testBit k then 1 else 0 := by
  rw [show ((g : Int) / 2 ^ k) = ((g / 2 ^ k : Nat) : Int) by simp]
  show IntKind.i64.wrap ((BitVec.ofInt 64 ((g / 2 ^ k : Nat) : Int) &&& BitVec.ofInt 64 ((1 : Nat) : Int)).toNat : Int) = _
  rw [BitVec.toNat_and, ofInt_u64 _ (Nat.lt_of_le_of_lt (Nat.div_le_self _ _) hg), ofInt_u64 1 (by decide), Nat.and_one_is_mod, Nat.testBit_eq_decide_div_mod_eq]
  by_cases h : g / 2 ^ k % 2 = 1
  · rw [h]; rfl
  · rw [show g / 2 ^ k % 2 = 0 by omega]; rfl
theorem gorK_lt64 {rel : List (List Nat)} {g : Nat} (h : ∀ k x, (rel.getD k []).getD x 0 < 18446744073709551616) : ∀ k x, gorK rel g x k < 18446744073709551616
  | 0, x => by simp [gorK]
  | k + 1, x => by
    have ih := gorK_lt64 (g := g) h k x
    unfold gorK
    split
    · exact Nat.or_lt_two_pow (n := 64) ih (h k x)
    · exact ih
theorem pGroupOp_any (x y : Nat) (w : World) (hx : x < 18446744073709551616) (hy : y < 18446744073709551616) :
    Calls Tryd.prog 92 #[.int .u64 (x : Int), .int .u64 (y : Int)] w fun e w' => e = .returned (.int .u64 ((x ||| y : Nat) : Int)) ∧ w' = w := by
  have ho := u64_or_nat x y hx hy
  go_enter Tryd.func92, Tryd.ntmps92
  go_wp2
  go_ret
  exact ⟨rfl, rfl⟩
theorem pMeetOp_any (x y : Nat) (w : World) (hx : x < 18446744073709551616) (hy : y < 18446744073709551616) :
    Calls Tryd.prog 93 #[.int .u64 (x : Int), .int .u64 (y : Int)] w fun e w' => e = .returned (.int .u64 ((x &&& y : Nat) : Int)) ∧ w' = w := by
  have ho := u64_and_nat x y hx hy
  go_enter Tryd.func93, Tryd.ntmps93
  go_wp2
  go_ret
  exact ⟨rfl, rfl⟩
set_option maxHeartbeats 8000000 in
theorem pGroupComb_any (m : Mo) (v : Value) (gi : Int) (w : World) (hM : MoR w w.heap.size v m) (hgi : -9223372036854775808 ≤ gi ∧ gi < 9223372036854775808) :
    Calls Tryd.prog 91 #[v, .int .i64 gi, .int .u64 (0 : Int), .func (.func 92) #[] #[]] w fun e w' => ∃ A c, e = .returned (.slice A (groupL m gi).length c) ∧ Reads w' w'.heap.size 1 A (groupL m gi).length (us (groupL m gi)) ∧ Below w.heap.size w w' := by
  obtain ⟨A1, c1, A2, c2, rfl, hv, hr⟩ := hM.ex
  have HB := Lib.hid (MBox.made w m.n (.slice A1 m.val.length c1) (.slice A2 m.rel.length c2))
  have HBe : Hid (Below w.heap.size w (w.alloc (.cells #[.int .i64 m.n, .slice A1 m.val.length c1, .slice A2 m.rel.length c2] 25))) := Lib.hid ((Below.refl _ w).alloc (Nat.le_refl _) _)
  have HC := Lib.hid (fun W (hb : Below w.heap.size w W) => pCheck_any m (.agg #[.int .i64 m.n, .slice A1 m.val.length c1, .slice A2 m.rel.length c2]) W (hM.below hb hb.size))
  have HR := Lib.hid hr
  have HMM := Lib.hid hM
  have HE : Hid (isG m gi = false → groupL m gi = []) := Lib.hid (fun h => by unfold groupL; rw [h]; rfl)
  have HS : Hid (isG m gi = true → groupL m gi = (List.range m.n.toNat).map (fun x => gorK m.rel gi.toNat x m.rel.length)) := Lib.hid (fun h => by unfold groupL; rw [h]; rfl)
  clear hM hv hr
  by_cases hz : chkM m = 0
  · have ok := chkM_ok hz
    have hq4 := ok.agents
    rw [hz] at HC
    have hpl : (2 : Nat) ^ m.rel.length ≤ 2 ^ 4 := Nat.pow_le_pow_right (by decide) hq4
    have hpw : wrap64 (2 ^ m.rel.length) = ((2 ^ m.rel.length : Nat) : Int) := by
      have e : ((2 : Int) ^ m.rel.length) = ((2 ^ m.rel.length : Nat) : Int) := by simp
      rw [e]; generalize (2 : Nat) ^ m.rel.length = z at *; unfold wrap64; omega
    by_cases h1 : gi < 1
    · have d1 : decide (gi < 1) = true := decide_eq_true h1
      have HV := Lib.hid (HE.out (by unfold isG; rw [show decide (1 ≤ gi) = false from decide_eq_false (by omega)]; simp))
      generalize groupL m gi = res at *
      clear ok hz hpw hpl
      go_enter Tryd.func91, Tryd.ntmps91
      go_wp2_with fail
      refine (HC.out _ HBe.out).mono ?_
      rintro e w2 ⟨rfl, hb2⟩
      have HB2 := Lib.hid (HBe.out.trans (hb2.mono HBe.out.size))
      clear hb2
      go_wp2
      go_ret
      rw [HV.out]
      exact ⟨none, 0, rfl, (by unfold us; exact Reads.none_), HB2.out⟩
    · by_cases h2 : (2 : Int) ^ m.rel.length ≤ gi
      · have d1 : decide (gi < 1) = false := decide_eq_false h1
        have d2 : decide (((2 ^ m.rel.length : Nat) : Int) ≤ gi) = true := decide_eq_true (by simpa using h2)
        have HV := Lib.hid (HE.out (by unfold isG; rw [show decide (gi < 2 ^ m.rel.length) = false from decide_eq_false (by omega)]; simp))
        generalize groupL m gi = res at *
        generalize (2 : Nat) ^ m.rel.length = p2q at *
        clear ok hz hpl
        go_enter Tryd.func91, Tryd.ntmps91
        go_wp2_with fail
        refine (HC.out _ HBe.out).mono ?_
        rintro e w2 ⟨rfl, hb2⟩
        have HB2 := Lib.hid (HBe.out.trans (hb2.mono HBe.out.size))
        have HX := Lib.hid (HB.out.below hb2 HB.out.lt)
        clear hb2
        have b2 := HX.out.c2
        go_wp2
        go_ret
        rw [HV.out]
        exact ⟨none, 0, rfl, (by unfold us; exact Reads.none_), HB2.out⟩
      · have d1 : decide (gi < 1) = false := decide_eq_false h1
        have d2 : decide (((2 ^ m.rel.length : Nat) : Int) ≤ gi) = false := decide_eq_false (by simpa using h2)
        have HV := Lib.hid (HS.out (by unfold isG; rw [decide_eq_true hz, decide_eq_true (show 1 ≤ gi by omega), decide_eq_true (show gi < 2 ^ m.rel.length by omega)]; rfl))
        obtain ⟨g, rfl⟩ : ∃ g : Nat, gi = (g : Int) := ⟨gi.toNat, by omega⟩
        rw [show ((g : Nat) : Int).toNat = g from rfl] at HV
        have hg64 : g < 18446744073709551616 := by omega
        have d3 : decide (2 ^ m.rel.length ≤ g) = false := by
          rw [decide_eq_false_iff_not] at d2 ⊢
          exact fun h => d2 (Int.ofNat_le.2 h)
        clear d2
        have HNUM := Lib.hid ok.num
        have hle := ok.le
        have hpos := ok.pos
        have HRX := Lib.hid (fun k x => Nat.lt_of_lt_of_le (relW_lt ok.rel k x) (show 2 ^ m.n.toNat ≤ 18446744073709551616 from Nat.pow_le_pow_right (show 0 < 2 by decide) ok.le))
        have HRL := Lib.hid (fun k (h : k < m.rel.length) => ok.len (m.rel.getD k []) (getD_mem' h))
        have HFL : Hid (∀ k x, gorK m.rel g x k < 18446744073709551616) := Lib.hid (fun k x => (by exact gorK_lt64 HRX.out k x))
        generalize hres : groupL m (g : Int) = res at *
        have HRES := Lib.hid hres
        clear hres HE HS
        generalize hn : m.n.toNat = n at *
        have hmn : m.n = (n : Int) := by rw [HNUM.out]
        rw [hmn] at HB HBe HC HMM
        rw [hmn]
        clear ok hz hpl hn hmn HNUM
        generalize (2 : Nat) ^ m.rel.length = p2q at *
        generalize hrel : m.rel = rel at *
        have HREL := Lib.hid hrel
        clear hrel
        generalize hq : rel.length = q at *
        have HQ := Lib.hid hq
        clear hq
        have HRP := Lib.hid (fun W g0 (h : g0 < W.heap.size) hc => pRepeat_any 0 n g0 W hle hpos h hc)
        have HBIT := Lib.hid (fun k => bit_even (k := k) hg64)
        clear hg64
        go_enter Tryd.func91, Tryd.ntmps91
        go_wp2_with fail
        refine (HC.out _ HBe.out).mono ?_
        rintro e w2 ⟨rfl, hb2⟩
        have HB2 := Lib.hid (HBe.out.trans (hb2.mono HBe.out.size))
        have HX := Lib.hid (HB.out.below hb2 HB.out.lt)
        clear hb2
        have b0 := HX.out.c0
        have b2 := HX.out.c2
        have HNEW : Hid (w2.heap.size < (w2.alloc (.cells (us [0]).toArray 31)).heap.size ∧ (w2.alloc (.cells (us [0]).toArray 31)).cell? ⟨w2.heap.size, 0, none⟩ = some (.int .u64 (0 : Int))) := Lib.hid ⟨by simp, (HoldsU.made w2 [0]).cell 0 (by simp)⟩
        have hlt0 := HX.out.lt
        go_wp2_with fail
        refine (HRP.out _ w2.heap.size HNEW.out.1 HNEW.out.2).mono ?_
        rintro e w3 ⟨rfl, hU3, hb3⟩
        have HWA : Hid (Below w2.heap.size w2 w3) := Lib.hid (((Below.refl _ w2).alloc (Nat.le_refl _) _).trans (hb3.mono (by simp)))
        have hsz3 : (w2.alloc (.cells (us [0]).toArray 31)).heap.size = w2.heap.size + 1 := by simp
        have HU3 : Hid (HoldsU w3 (w2.heap.size + 1) (mixG (fun k x => gorK rel g x k) n 0 0)) := Lib.hid (by
          have e : mixG (fun k x => gorK rel g x k) n 0 0 = List.replicate n 0 := by
            rw [mixG_zero]
            apply List.ext_getElem (by simp)
            intro i h1 h2
            simp [gorK]
          rw [e, ← hsz3]
          exact hU3)
        have HG0 : Hid (w.heap.size < w2.heap.size + 1) := Lib.hid (by omega)
        have HB3 := Lib.hid (HB2.out.trans (HWA.out.mono HB2.out.size))
        have HX3 := Lib.hid (HX.out.below HWA.out HX.out.lt)
        have c2' := HX3.out.c2
        rw [hsz3]
        clear hU3 hb3 hsz3 b0 b2 HNEW HWA HX HB2
        generalize w2.heap.size + 1 = G at *
        go_wp2
        obtain ⟨FF, hFF⟩ : ∃ FF : Nat → Nat → Nat, FF = fun k x => gorK rel g x k := ⟨_, rfl⟩
        rw [← hFF] at HU3
        have HHIT : Hid (∀ k x, g.testBit k = true → FF (k + 1) x = FF k x ||| (rel.getD k []).getD x 0) := Lib.hid (fun k x h => by rw [hFF]; show gorK rel g x (k + 1) = _; rw [gorK, if_pos h])
        have HMISS : Hid (∀ k x, g.testBit k = false → FF (k + 1) x = FF k x) := Lib.hid (fun k x h => by rw [hFF]; show gorK rel g x (k + 1) = _; rw [gorK, h]; rfl)
        have HFL2 : Hid (∀ k x, FF k x < 18446744073709551616) := Lib.hid (fun k x => by rw [hFF]; exact HFL.out k x)
        have HV2 : Hid (res = (List.range n).map (FF q)) := Lib.hid (by rw [HV.out, hFF])
        clear hFF HFL HV c2'
        go_loopw [10, 11, 12, 36, 48] (fun _ _ _ i _ wr => ∃ k : Nat, k ≤ q ∧ i = .int .i64 k ∧ Hid (HoldsU wr G (mixG FF n k 0)) ∧ Hid (Below w.heap.size w wr)) (fun _ _ _ i _ _ => q - (intOf i).toNat)
        case atStart => exact ⟨0, Nat.zero_le _, rfl, HU3, HB3⟩
        case round =>
          obtain ⟨k, hk, rfl, HU, HBk⟩ := hrel
          by_cases hlt : k < q
          · obtain ⟨ad, Aj, cj, rfl, hb, hc0, hrj, hlj⟩ := HR.out.at_ hlt
            have hc := (HBk.out.cell (p := ad.add k) (by rw [block_of_add]; exact hb)).trans hc0
            have hlen := HRL.out k hlt
            rw [hlen] at hc hrj
            have HRJ := Lib.hid hrj
            have hba := HBIT.out k
            clear hc0 hlen hrj hlj
            by_cases hbit : g.testBit k = true
            · rw [if_pos hbit] at hba
              have HH := Lib.hid (fun x => HHIT.out k x hbit)
              clear hbit
              go_wp2
              go_loopw [12, 48] (fun _ i wy => ∃ j : Nat, j ≤ n ∧ i = .int .i64 j ∧ Hid (HoldsU wy G (mixG FF n k j)) ∧ Hid (Below w.heap.size w wy)) (fun _ i _ => n - (intOf i).toNat)
              case atStart => exact ⟨0, Nat.zero_le _, rfl, HU, HBk⟩
              case round =>
                obtain ⟨j, hj, rfl, HUj, HBj⟩ := hrel
                by_cases hlt2 : j < n
                · obtain ⟨aj, rfl, haj, hcj⟩ := (HRJ.out.below HBj.out).word_k (k := j) hlt2
                  have hcu := HUj.out.cell j (by rw [mixG_len]; exact hlt2)
                  rw [mixG_get hlt2] at hcu
                  have HSET := Lib.hid (fun (x : Nat) h => mixG_set (F := FF) (k := k) hlt2 (x := x) h)
                  have HNX := Lib.hid (HSET.out _ (HH.out j).symm)
                  have HII := Lib.hid (pGroupOp_any (FF k j) ((rel.getD k []).getD j 0) wr.drew (HFL2.out k j) (HRX.out k j))
                  clear HSET
                  have hfu := HUj.out.free j
                  have hcu2 : wr.drew.cell? ⟨G, j, none⟩ = _ := hcu
                  have hfu2 : wr.drew.frozen? ⟨G, j, none⟩ = false := hfu
                  have hcj2 : wr.drew.cell? (aj.add j) = _ := hcj
                  have HUd : Hid (HoldsU wr.drew G (mixG FF n k j)) := HUj
                  have HBd := Lib.hid HBj.out.drew
                  generalize (rel.getD k []).getD j 0 = z at *
                  generalize FF k j = x at *
                  go_wp2
                  refine wp_region_still_tail 13 (by kernel_rfl) (by kernel_rfl) ?_
                  simp only [List.take_succ_cons, List.take_zero, List.drop_succ_cons, List.drop_zero]
                  repeat still_step
                  still_call HII.out
                  repeat still_step
                  try refine wpStill_nil ?_
                  change wpList _ _ _ _ _ wr.drew
                  clear hcu hfu hcj HII hcu2 hfu2 hcj2 HUj HBj
                  have hcu := HUd.out.cell j (by rw [mixG_len]; exact hlt2)
                  have hfu := HUd.out.free j
                  generalize wr.drew = w6 at *
                  go_wp2
                  go_roundw
                  case rel => exact ⟨j + 1, by omega, by go_num, Lib.hid (by have h9 := HUd.out.put j (x ||| z); rw [HNX.out] at h9; exact h9), Lib.hid (HBd.out.trans ((OnlyB.set G j w6 _).below (Nat.le_of_lt HG0.out) HBd.out.size))⟩
                  case measure => first | (simp [intOf]; done) | (simp [intOf]; omega)
                · obtain rfl : n = j := by omega
                  have HUf := HUj
                  rw [mixG_full, ← mixG_zero] at HUf
                  clear hlt2 HUj
                  go_wp2
                  go_roundw
                  case rel => exact ⟨k + 1, by omega, by go_num, HUf, HBj⟩
                  case measure => first | (simp [intOf]; done) | (simp [intOf]; omega)
            · have hbit2 : g.testBit k = false := by simpa using hbit
              rw [if_neg hbit] at hba
              have HUf : Hid (HoldsU wr G (mixG FF n (k + 1) 0)) := Lib.hid (by
                have e : mixG FF n (k + 1) 0 = mixG FF n k 0 := by
                  rw [mixG_zero, mixG_zero]
                  exact List.map_congr_left (fun x _ => HMISS.out k x hbit2)
                rw [e]; exact HU.out)
              clear hbit hbit2
              go_wp2
              go_roundw
              case rel => exact ⟨k + 1, by omega, by go_num, HUf, HBk⟩
              case measure => first | (simp [intOf]; done) | (simp [intOf]; omega)
          · obtain rfl : q = k := by omega
            clear hlt
            go_wp2
            go_ret
            have h9 := HU.out.reads
            rw [mixG_zero, ← HV2.out] at h9
            have h8 : res.length = n := by rw [HV2.out]; simp
            rw [h8] at h9 ⊢
            exact ⟨_, _, rfl, h9, HBk.out⟩
  · have hne : (chkM m != 0) = true := by rw [bne_iff_ne]; exact hz
    have HV := Lib.hid (HE.out (by unfold isG; rw [decide_eq_false hz]; rfl))
    generalize groupL m gi = res at *
    generalize chkM m = ce at *
    clear hz
    go_enter Tryd.func91, Tryd.ntmps91
    go_wp2_with fail
    refine (HC.out _ HBe.out).mono ?_
    rintro e w2 ⟨rfl, hb2⟩
    have HB2 := Lib.hid (HBe.out.trans (hb2.mono HBe.out.size))
    clear hb2
    go_wp2
    go_ret
    rw [HV.out]
    exact ⟨none, 0, rfl, (by unfold us; exact Reads.none_), HB2.out⟩
set_option maxHeartbeats 8000000 in
theorem pMeetComb_any (m : Mo) (v : Value) (gi : Int) (w : World) (hM : MoR w w.heap.size v m) (hgi : -9223372036854775808 ≤ gi ∧ gi < 9223372036854775808) :
    Calls Tryd.prog 91 #[v, .int .i64 gi, .int .u64 (18446744073709551615 : Int), .func (.func 93) #[] #[]] w fun e w' => ∃ A c, e = .returned (.slice A (meetL m gi).length c) ∧ Reads w' w'.heap.size 1 A (meetL m gi).length (us (meetL m gi)) ∧ Below w.heap.size w w' := by
  obtain ⟨A1, c1, A2, c2, rfl, hv, hr⟩ := hM.ex
  have HB := Lib.hid (MBox.made w m.n (.slice A1 m.val.length c1) (.slice A2 m.rel.length c2))
  have HBe : Hid (Below w.heap.size w (w.alloc (.cells #[.int .i64 m.n, .slice A1 m.val.length c1, .slice A2 m.rel.length c2] 25))) := Lib.hid ((Below.refl _ w).alloc (Nat.le_refl _) _)
  have HC := Lib.hid (fun W (hb : Below w.heap.size w W) => pCheck_any m (.agg #[.int .i64 m.n, .slice A1 m.val.length c1, .slice A2 m.rel.length c2]) W (hM.below hb hb.size))
  have HR := Lib.hid hr
  have HMM := Lib.hid hM
  have HE : Hid (isG m gi = false → meetL m gi = []) := Lib.hid (fun h => by unfold meetL; rw [h]; rfl)
  have HS : Hid (isG m gi = true → meetL m gi = (List.range m.n.toNat).map (fun x => gandK 18446744073709551615 m.rel gi.toNat x m.rel.length)) := Lib.hid (fun h => by unfold meetL; rw [h]; rfl)
  clear hM hv hr
  by_cases hz : chkM m = 0
  · have ok := chkM_ok hz
    have hq4 := ok.agents
    rw [hz] at HC
    have hpl : (2 : Nat) ^ m.rel.length ≤ 2 ^ 4 := Nat.pow_le_pow_right (by decide) hq4
    have hpw : wrap64 (2 ^ m.rel.length) = ((2 ^ m.rel.length : Nat) : Int) := by
      have e : ((2 : Int) ^ m.rel.length) = ((2 ^ m.rel.length : Nat) : Int) := by simp
      rw [e]; generalize (2 : Nat) ^ m.rel.length = z at *; unfold wrap64; omega
    by_cases h1 : gi < 1
    · have d1 : decide (gi < 1) = true := decide_eq_true h1
      have HV := Lib.hid (HE.out (by unfold isG; rw [show decide (1 ≤ gi) = false from decide_eq_false (by omega)]; simp))
      generalize meetL m gi = res at *
      clear ok hz hpw hpl
      go_enter Tryd.func91, Tryd.ntmps91
      go_wp2_with fail
      refine (HC.out _ HBe.out).mono ?_
      rintro e w2 ⟨rfl, hb2⟩
      have HB2 := Lib.hid (HBe.out.trans (hb2.mono HBe.out.size))
      clear hb2
      go_wp2
      go_ret
      rw [HV.out]
      exact ⟨none, 0, rfl, (by unfold us; exact Reads.none_), HB2.out⟩
    · by_cases h2 : (2 : Int) ^ m.rel.length ≤ gi
      · have d1 : decide (gi < 1) = false := decide_eq_false h1
        have d2 : decide (((2 ^ m.rel.length : Nat) : Int) ≤ gi) = true := decide_eq_true (by simpa using h2)
        have HV := Lib.hid (HE.out (by unfold isG; rw [show decide (gi < 2 ^ m.rel.length) = false from decide_eq_false (by omega)]; simp))
        generalize meetL m gi = res at *
        generalize (2 : Nat) ^ m.rel.length = p2q at *
        clear ok hz hpl
        go_enter Tryd.func91, Tryd.ntmps91
        go_wp2_with fail
        refine (HC.out _ HBe.out).mono ?_
        rintro e w2 ⟨rfl, hb2⟩
        have HB2 := Lib.hid (HBe.out.trans (hb2.mono HBe.out.size))
        have HX := Lib.hid (HB.out.below hb2 HB.out.lt)
        clear hb2
        have b2 := HX.out.c2
        go_wp2
        go_ret
        rw [HV.out]
        exact ⟨none, 0, rfl, (by unfold us; exact Reads.none_), HB2.out⟩
      · have d1 : decide (gi < 1) = false := decide_eq_false h1
        have d2 : decide (((2 ^ m.rel.length : Nat) : Int) ≤ gi) = false := decide_eq_false (by simpa using h2)
        have HV := Lib.hid (HS.out (by unfold isG; rw [decide_eq_true hz, decide_eq_true (show 1 ≤ gi by omega), decide_eq_true (show gi < 2 ^ m.rel.length by omega)]; rfl))
        obtain ⟨g, rfl⟩ : ∃ g : Nat, gi = (g : Int) := ⟨gi.toNat, by omega⟩
        rw [show ((g : Nat) : Int).toNat = g from rfl] at HV
        have hg64 : g < 18446744073709551616 := by omega
        have d3 : decide (2 ^ m.rel.length ≤ g) = false := by
          rw [decide_eq_false_iff_not] at d2 ⊢
          exact fun h => d2 (Int.ofNat_le.2 h)
        clear d2
        have HNUM := Lib.hid ok.num
        have hle := ok.le
        have hpos := ok.pos
        have HRX := Lib.hid (fun k x => Nat.lt_of_lt_of_le (relW_lt ok.rel k x) (show 2 ^ m.n.toNat ≤ 18446744073709551616 from Nat.pow_le_pow_right (show 0 < 2 by decide) ok.le))
        have HRL := Lib.hid (fun k (h : k < m.rel.length) => ok.len (m.rel.getD k []) (getD_mem' h))
        have HFL : Hid (∀ k x, gandK 18446744073709551615 m.rel g x k < 18446744073709551616) := Lib.hid (fun k x => (by have h := gandK_le 18446744073709551615 m.rel g x k; omega))
        generalize hres : meetL m (g : Int) = res at *
        have HRES := Lib.hid hres
        clear hres HE HS
        generalize hn : m.n.toNat = n at *
        have hmn : m.n = (n : Int) := by rw [HNUM.out]
        rw [hmn] at HB HBe HC HMM
        rw [hmn]
        clear ok hz hpl hn hmn HNUM
        generalize (2 : Nat) ^ m.rel.length = p2q at *
        generalize hrel : m.rel = rel at *
        have HREL := Lib.hid hrel
        clear hrel
        generalize hq : rel.length = q at *
        have HQ := Lib.hid hq
        clear hq
        have HRP := Lib.hid (fun W g0 (h : g0 < W.heap.size) hc => pRepeat_any 18446744073709551615 n g0 W hle hpos h hc)
        have HBIT := Lib.hid (fun k => bit_even (k := k) hg64)
        clear hg64
        go_enter Tryd.func91, Tryd.ntmps91
        go_wp2_with fail
        refine (HC.out _ HBe.out).mono ?_
        rintro e w2 ⟨rfl, hb2⟩
        have HB2 := Lib.hid (HBe.out.trans (hb2.mono HBe.out.size))
        have HX := Lib.hid (HB.out.below hb2 HB.out.lt)
        clear hb2
        have b0 := HX.out.c0
        have b2 := HX.out.c2
        have HNEW : Hid (w2.heap.size < (w2.alloc (.cells (us [18446744073709551615]).toArray 31)).heap.size ∧ (w2.alloc (.cells (us [18446744073709551615]).toArray 31)).cell? ⟨w2.heap.size, 0, none⟩ = some (.int .u64 (18446744073709551615 : Int))) := Lib.hid ⟨by simp, (HoldsU.made w2 [18446744073709551615]).cell 0 (by simp)⟩
        have hlt0 := HX.out.lt
        go_wp2_with fail
        refine (HRP.out _ w2.heap.size HNEW.out.1 HNEW.out.2).mono ?_
        rintro e w3 ⟨rfl, hU3, hb3⟩
        have HWA : Hid (Below w2.heap.size w2 w3) := Lib.hid (((Below.refl _ w2).alloc (Nat.le_refl _) _).trans (hb3.mono (by simp)))
        have hsz3 : (w2.alloc (.cells (us [18446744073709551615]).toArray 31)).heap.size = w2.heap.size + 1 := by simp
        have HU3 : Hid (HoldsU w3 (w2.heap.size + 1) (mixG (fun k x => gandK 18446744073709551615 rel g x k) n 0 0)) := Lib.hid (by
          have e : mixG (fun k x => gandK 18446744073709551615 rel g x k) n 0 0 = List.replicate n 18446744073709551615 := by
            rw [mixG_zero]
            apply List.ext_getElem (by simp)
            intro i h1 h2
            simp [gandK]
          rw [e, ← hsz3]
          exact hU3)
        have HG0 : Hid (w.heap.size < w2.heap.size + 1) := Lib.hid (by omega)
        have HB3 := Lib.hid (HB2.out.trans (HWA.out.mono HB2.out.size))
        have HX3 := Lib.hid (HX.out.below HWA.out HX.out.lt)
        have c2' := HX3.out.c2
        rw [hsz3]
        clear hU3 hb3 hsz3 b0 b2 HNEW HWA HX HB2
        generalize w2.heap.size + 1 = G at *
        go_wp2
        obtain ⟨FF, hFF⟩ : ∃ FF : Nat → Nat → Nat, FF = fun k x => gandK 18446744073709551615 rel g x k := ⟨_, rfl⟩
        rw [← hFF] at HU3
        have HHIT : Hid (∀ k x, g.testBit k = true → FF (k + 1) x = FF k x &&& (rel.getD k []).getD x 0) := Lib.hid (fun k x h => by rw [hFF]; show gandK 18446744073709551615 rel g x (k + 1) = _; rw [gandK, if_pos h])
        have HMISS : Hid (∀ k x, g.testBit k = false → FF (k + 1) x = FF k x) := Lib.hid (fun k x h => by rw [hFF]; show gandK 18446744073709551615 rel g x (k + 1) = _; rw [gandK, h]; rfl)
        have HFL2 : Hid (∀ k x, FF k x < 18446744073709551616) := Lib.hid (fun k x => by rw [hFF]; exact HFL.out k x)
        have HV2 : Hid (res = (List.range n).map (FF q)) := Lib.hid (by rw [HV.out, hFF])
        clear hFF HFL HV c2'
        go_loopw [10, 11, 12, 36, 48] (fun _ _ _ i _ wr => ∃ k : Nat, k ≤ q ∧ i = .int .i64 k ∧ Hid (HoldsU wr G (mixG FF n k 0)) ∧ Hid (Below w.heap.size w wr)) (fun _ _ _ i _ _ => q - (intOf i).toNat)
        case atStart => exact ⟨0, Nat.zero_le _, rfl, HU3, HB3⟩
        case round =>
          obtain ⟨k, hk, rfl, HU, HBk⟩ := hrel
          by_cases hlt : k < q
          · obtain ⟨ad, Aj, cj, rfl, hb, hc0, hrj, hlj⟩ := HR.out.at_ hlt
            have hc := (HBk.out.cell (p := ad.add k) (by rw [block_of_add]; exact hb)).trans hc0
            have hlen := HRL.out k hlt
            rw [hlen] at hc hrj
            have HRJ := Lib.hid hrj
            have hba := HBIT.out k
            clear hc0 hlen hrj hlj
            by_cases hbit : g.testBit k = true
            · rw [if_pos hbit] at hba
              have HH := Lib.hid (fun x => HHIT.out k x hbit)
              clear hbit
              go_wp2
              go_loopw [12, 48] (fun _ i wy => ∃ j : Nat, j ≤ n ∧ i = .int .i64 j ∧ Hid (HoldsU wy G (mixG FF n k j)) ∧ Hid (Below w.heap.size w wy)) (fun _ i _ => n - (intOf i).toNat)
              case atStart => exact ⟨0, Nat.zero_le _, rfl, HU, HBk⟩
              case round =>
                obtain ⟨j, hj, rfl, HUj, HBj⟩ := hrel
                by_cases hlt2 : j < n
                · obtain ⟨aj, rfl, haj, hcj⟩ := (HRJ.out.below HBj.out).word_k (k := j) hlt2
                  have hcu := HUj.out.cell j (by rw [mixG_len]; exact hlt2)
                  rw [mixG_get hlt2] at hcu
                  have HSET := Lib.hid (fun (x : Nat) h => mixG_set (F := FF) (k := k) hlt2 (x := x) h)
                  have HNX := Lib.hid (HSET.out _ (HH.out j).symm)
                  have HII := Lib.hid (pMeetOp_any (FF k j) ((rel.getD k []).getD j 0) wr.drew (HFL2.out k j) (HRX.out k j))
                  clear HSET
                  have hfu := HUj.out.free j
                  have hcu2 : wr.drew.cell? ⟨G, j, none⟩ = _ := hcu
                  have hfu2 : wr.drew.frozen? ⟨G, j, none⟩ = false := hfu
                  have hcj2 : wr.drew.cell? (aj.add j) = _ := hcj
                  have HUd : Hid (HoldsU wr.drew G (mixG FF n k j)) := HUj
                  have HBd := Lib.hid HBj.out.drew
                  generalize (rel.getD k []).getD j 0 = z at *
                  generalize FF k j = x at *
                  go_wp2
                  refine wp_region_still_tail 13 (by kernel_rfl) (by kernel_rfl) ?_
                  simp only [List.take_succ_cons, List.take_zero, List.drop_succ_cons, List.drop_zero]
                  repeat still_step
                  still_call HII.out
                  repeat still_step
                  try refine wpStill_nil ?_
                  change wpList _ _ _ _ _ wr.drew
                  clear hcu hfu hcj HII hcu2 hfu2 hcj2 HUj HBj
                  have hcu := HUd.out.cell j (by rw [mixG_len]; exact hlt2)
                  have hfu := HUd.out.free j
                  generalize wr.drew = w6 at *
                  go_wp2
                  go_roundw
                  case rel => exact ⟨j + 1, by omega, by go_num, Lib.hid (by have h9 := HUd.out.put j (x &&& z); rw [HNX.out] at h9; exact h9), Lib.hid (HBd.out.trans ((OnlyB.set G j w6 _).below (Nat.le_of_lt HG0.out) HBd.out.size))⟩
                  case measure => first | (simp [intOf]; done) | (simp [intOf]; omega)
                · obtain rfl : n = j := by omega
                  have HUf := HUj
                  rw [mixG_full, ← mixG_zero] at HUf
                  clear hlt2 HUj
                  go_wp2
                  go_roundw
                  case rel => exact ⟨k + 1, by omega, by go_num, HUf, HBj⟩
                  case measure => first | (simp [intOf]; done) | (simp [intOf]; omega)
            · have hbit2 : g.testBit k = false := by simpa using hbit
              rw [if_neg hbit] at hba
              have HUf : Hid (HoldsU wr G (mixG FF n (k + 1) 0)) := Lib.hid (by
                have e : mixG FF n (k + 1) 0 = mixG FF n k 0 := by
                  rw [mixG_zero, mixG_zero]
                  exact List.map_congr_left (fun x _ => HMISS.out k x hbit2)
                rw [e]; exact HU.out)
              clear hbit hbit2
              go_wp2
              go_roundw
              case rel => exact ⟨k + 1, by omega, by go_num, HUf, HBk⟩
              case measure => first | (simp [intOf]; done) | (simp [intOf]; omega)
          · obtain rfl : q = k := by omega
            clear hlt
            go_wp2
            go_ret
            have h9 := HU.out.reads
            rw [mixG_zero, ← HV2.out] at h9
            have h8 : res.length = n := by rw [HV2.out]; simp
            rw [h8] at h9 ⊢
            exact ⟨_, _, rfl, h9, HBk.out⟩
  · have hne : (chkM m != 0) = true := by rw [bne_iff_ne]; exact hz
    have HV := Lib.hid (HE.out (by unfold isG; rw [decide_eq_false hz]; rfl))
    generalize meetL m gi = res at *
    generalize chkM m = ce at *
    clear hz
    go_enter Tryd.func91, Tryd.ntmps91
    go_wp2_with fail
    refine (HC.out _ HBe.out).mono ?_
    rintro e w2 ⟨rfl, hb2⟩
    have HB2 := Lib.hid (HBe.out.trans (hb2.mono HBe.out.size))
    clear hb2
    go_wp2
    go_ret
    rw [HV.out]
    exact ⟨none, 0, rfl, (by unfold us; exact Reads.none_), HB2.out⟩
set_option maxHeartbeats 4000000 in
theorem pGroup_any (m : Mo) (v : Value) (gi : Int) (w : World) (hM : MoR w w.heap.size v m) (hgi : -9223372036854775808 ≤ gi ∧ gi < 9223372036854775808) :
    Calls Tryd.prog 79 #[v, .int .i64 gi] w fun e w' => ∃ A c, e = .returned (.slice A (groupL m gi).length c) ∧ Reads w' w'.heap.size 1 A (groupL m gi).length (us (groupL m gi)) ∧ Below w.heap.size w w' := by
  obtain ⟨A1, c1, A2, c2, rfl, hv, hr⟩ := hM.ex
  have HBe : Hid (Below w.heap.size w (w.alloc (.cells #[.int .i64 m.n, .slice A1 m.val.length c1, .slice A2 m.rel.length c2] 25))) := Lib.hid ((Below.refl _ w).alloc (Nat.le_refl _) _)
  have HC := Lib.hid (pGroupComb_any m (.agg #[.int .i64 m.n, .slice A1 m.val.length c1, .slice A2 m.rel.length c2]) gi _ (hM.below HBe.out HBe.out.size) hgi)
  clear hM hv hr
  generalize groupL m gi = res at *
  go_enter Tryd.func79, Tryd.ntmps79
  go_wp2_with fail
  refine (HC.out).mono ?_
  rintro e w2 ⟨A, c, rfl, hR, hb2⟩
  have HB2 := Lib.hid (HBe.out.trans (hb2.mono HBe.out.size))
  have HRR := Lib.hid hR
  clear hb2 hR
  go_wp2
  go_ret
  exact ⟨_, _, rfl, HRR.out, HB2.out⟩
set_option maxHeartbeats 4000000 in
theorem pMeet_any (m : Mo) (v : Value) (gi : Int) (w : World) (hM : MoR w w.heap.size v m) (hgi : -9223372036854775808 ≤ gi ∧ gi < 9223372036854775808) :
    Calls Tryd.prog 80 #[v, .int .i64 gi] w fun e w' => ∃ A c, e = .returned (.slice A (meetL m gi).length c) ∧ Reads w' w'.heap.size 1 A (meetL m gi).length (us (meetL m gi)) ∧ Below w.heap.size w w' := by
  obtain ⟨A1, c1, A2, c2, rfl, hv, hr⟩ := hM.ex
  have HBe : Hid (Below w.heap.size w (w.alloc (.cells #[.int .i64 m.n, .slice A1 m.val.length c1, .slice A2 m.rel.length c2] 25))) := Lib.hid ((Below.refl _ w).alloc (Nat.le_refl _) _)
  have HC := Lib.hid (pMeetComb_any m (.agg #[.int .i64 m.n, .slice A1 m.val.length c1, .slice A2 m.rel.length c2]) gi _ (hM.below HBe.out HBe.out.size) hgi)
  clear hM hv hr
  generalize meetL m gi = res at *
  go_enter Tryd.func80, Tryd.ntmps80
  go_wp2_with fail
  refine (HC.out).mono ?_
  rintro e w2 ⟨A, c, rfl, hR, hb2⟩
  have HB2 := Lib.hid (HBe.out.trans (hb2.mono HBe.out.size))
  have HRR := Lib.hid hR
  clear hb2 hR
  go_wp2
  go_ret
  exact ⟨_, _, rfl, HRR.out, HB2.out⟩
end Go.Proofs.YtjpmhbnikoggaaaDoor
