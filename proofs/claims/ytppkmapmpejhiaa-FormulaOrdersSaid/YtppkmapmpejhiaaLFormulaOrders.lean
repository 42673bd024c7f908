/- FormulaOrders (P5.6): Compare is a linear order in which a subformula never comes behind the formula. No condition. -/
import Derived.Test.YtppkmapmpejhiaaMl
import Derived.Test.YtppkmapmpejhiaaMm
import Derived.Test.YtppkmapmpejhiaaMr
import Derived.Test.YtppkmapmpejhiaaMo
namespace Go.Proofs.Ytppkmapmpejhiaa.formulaOrders
open Go.ChangeShapes Go.WideShapes Go.ChangeAt Go.RowKit Go.Proofs.Ytppkmapmpejhiaa Go.Proofs.Ws
theorem min2_run {P : Program} (ts : Array TypeId) (t : TypeId) (x y m : Int) (w : World) (h : min x y = m) :
    (Builtin.min_ ts t #[.int .i64 x, .int .i64 y]).run P w = .ok (.int .i64 m) w := by
  have e : (Builtin.min_ ts t #[.int .i64 x, .int .i64 y]).run P w = .ok (.int .i64 (if y < x then y else x)) w := by
    simp [Builtin.min_, Builtin.min2]
  rw [e]
  congr 2
  rw [← h]
  simp only [Int.min_def]
  omega
theorem max2_run {P : Program} (ts : Array TypeId) (t : TypeId) (x y m : Int) (w : World) (h : max x y = m) :
    (Builtin.max_ ts t #[.int .i64 x, .int .i64 y]).run P w = .ok (.int .i64 m) w := by
  have e : (Builtin.max_ ts t #[.int .i64 x, .int .i64 y]).run P w = .ok (.int .i64 (if x < y then y else x)) w := by
    simp [Builtin.max_, Builtin.max2]
  rw [e]
  congr 2
  rw [← h]
  simp only [Int.max_def]
  omega
set_option maxRecDepth 100000 in
set_option maxHeartbeats 8000000 in
theorem walk (x y z : List Nd) (A0 A1 A2 : Option Addr) (n0 n1 n2 c0 c1 c2 : Nat) (w : World) (h0 : NdRow w A0 n0 c0 x) (h1 : NdRow w A1 n1 c1 y) (h2 : NdRow w A2 n2 c2 z) :
    Calls Try.prog 9 #[.slice A0 n0 c0, .slice A1 n1 c1, .slice A2 n2 c2] w fun e w' => e = .returned (.bool true) ∧ Below w.heap.size w w' := by
  have H0 := Lib.hid h0.1
  have H1 := Lib.hid h1.1
  have H2 := Lib.hid h2.1
  have hm0 := h0.2.2.2
  have hm1 := h1.2.2.2
  have hm2 := h2.2.2.2
  have HAW := Lib.hid (fun W => awake_any W)
  have HXY : Hid (∀ W, Below w.heap.size w W → Calls Try.prog 36 #[.slice A0 n0 c0, .slice A1 n1 c1] W fun e w' => e = .returned (.int .i64 (cmpF x y)) ∧ Below W.heap.size W w') := Lib.hid (fun W h => by
    have e := pCompare_any x y A0 A1 n0 n1 c0 c1 W ((H0.out.below h).more h.size) ((H1.out.below h).more h.size) hm0 hm1
    exact e)
  have HYZ : Hid (∀ W, Below w.heap.size w W → Calls Try.prog 36 #[.slice A1 n1 c1, .slice A2 n2 c2] W fun e w' => e = .returned (.int .i64 (cmpF y z)) ∧ Below W.heap.size W w') := Lib.hid (fun W h => by
    have e := pCompare_any y z A1 A2 n1 n2 c1 c2 W ((H1.out.below h).more h.size) ((H2.out.below h).more h.size) hm1 hm2
    exact e)
  have HXZ : Hid (∀ W, Below w.heap.size w W → Calls Try.prog 36 #[.slice A0 n0 c0, .slice A2 n2 c2] W fun e w' => e = .returned (.int .i64 (cmpF x z)) ∧ Below W.heap.size W w') := Lib.hid (fun W h => by
    have e := pCompare_any x z A0 A2 n0 n2 c0 c2 W ((H0.out.below h).more h.size) ((H2.out.below h).more h.size) hm0 hm2
    exact e)
  have HYX : Hid (∀ W, Below w.heap.size w W → Calls Try.prog 36 #[.slice A1 n1 c1, .slice A0 n0 c0] W fun e w' => e = .returned (.int .i64 (-cmpF x y)) ∧ Below W.heap.size W w') := Lib.hid (fun W h => by
    have e := pCompare_any y x A1 A0 n1 n0 c1 c0 W ((H1.out.below h).more h.size) ((H0.out.below h).more h.size) hm1 hm0
    rw [cmpF_ord.anti x y] at e
    exact e)
  have HXX : Hid (∀ W, Below w.heap.size w W → Calls Try.prog 36 #[.slice A0 n0 c0, .slice A0 n0 c0] W fun e w' => e = .returned (.int .i64 (0)) ∧ Below W.heap.size W w') := Lib.hid (fun W h => by
    have e := pCompare_any x x A0 A0 n0 n0 c0 c0 W ((H0.out.below h).more h.size) ((H0.out.below h).more h.size) hm0 hm0
    rw [cmpF_self x] at e
    exact e)
  have HSB : Hid (∀ W, Below w.heap.size w W → Calls Try.prog 32 #[.slice A0 n0 c0] W fun e w' => ∃ v, e = .returned v ∧ LL w' W.heap.size v (subsF x) ∧ Below W.heap.size W w') := Lib.hid (fun W h => pSubs_any x A0 n0 c0 W ((H0.out.below h).more h.size) hm0)
  have HDX : Hid (∀ W, Below w.heap.size w W → Calls Try.prog 14 #[.slice A0 n0 c0] W fun e w' => e = .returned (.int .i64 (depF x)) ∧ Below W.heap.size W w') := Lib.hid (fun W h => pDepth_any x A0 n0 c0 W ((H0.out.below h).more h.size) hm0)
  have HFX : Hid (∀ W, Below w.heap.size w W → Calls Try.prog 16 #[.slice A0 n0 c0] W fun e w' => e = .returned (.int .i64 (maskL fragD (compF x) : Int)) ∧ Below W.heap.size W w') := Lib.hid (fun W h => pFrags_any x A0 n0 c0 W ((H0.out.below h).more h.size) hm0)
  -- of each subformula: its place, its contracts
  have HIT : Hid (∀ W0 b v, LL W0 b v (subsF x) → Below w.heap.size w W0 → ∃ A c, v = .slice A (subsF x).length c ∧ ∀ k, k < (subsF x).length → ∃ ad Aj nj cj zj dj gj, A = some ad ∧ W0.cell? (ad.add k) = some (.slice Aj nj cj) ∧ zj ≤ 0 ∧ dj ≤ depF x ∧ bits .andNot .i64 gj (maskL fragD (compF x) : Int) = 0 ∧
      (∀ W, Below W0.heap.size W0 W → Calls Try.prog 36 #[.slice Aj nj cj, .slice A0 n0 c0] W fun e w' => e = .returned (.int .i64 zj) ∧ Below W.heap.size W w') ∧
      (∀ W, Below W0.heap.size W0 W → Calls Try.prog 14 #[.slice Aj nj cj] W fun e w' => e = .returned (.int .i64 dj) ∧ Below W.heap.size W w') ∧
      (∀ W, Below W0.heap.size W0 W → Calls Try.prog 16 #[.slice Aj nj cj] W fun e w' => e = .returned (.int .i64 gj) ∧ Below W.heap.size W w')) := Lib.hid (by
    intro W0 b v hL hB
    obtain ⟨A, c, rfl, hi⟩ := hL.item
    refine ⟨A, c, rfl, fun k hk => ?_⟩
    obtain ⟨ad, Aj, cj, e1, e2, hr⟩ := hi k hk
    have hs : (subsF x).getD k [] ∈ subsF x := by rw [List.getD_eq_getElem?_getD, List.getElem?_eq_getElem hk]; exact List.getElem_mem hk
    have hl : ((subsF x).getD k []).length ≤ maxLen := by
      obtain ⟨_, t, r, ht, hc, hr2, e, h1, _⟩ := subs_tree hs
      have := (fErr_ok h1).2.1
      exact Nat.le_trans this (by unfold maxLen; omega)
    refine ⟨ad, Aj, _, cj, _, _, _, e1, e2, sub_cmp hs, sub_depth hs, andNot_sub _ _ (fun _ h => sub_frags hs h), fun W hW => pCompare_any _ x Aj A0 _ n0 cj c0 W ((hr.below hW).more hW.size) ((H0.out.below (hB.trans (hW.mono hB.size))).more (hB.trans (hW.mono hB.size)).size) hl hm0, fun W hW => pDepth_any _ Aj _ cj W ((hr.below hW).more hW.size) hl, fun W hW => pFrags_any _ Aj _ cj W ((hr.below hW).more hW.size) hl⟩)
  have hp := cmpF_ord.vals x y
  have hq := cmpF_ord.vals y z
  have hlo := cmpF_ord.trans x y z
  have hhi : 0 ≤ cmpF x y → 0 ≤ cmpF y z → cmpF x z = max (cmpF x y) (cmpF y z) := by
    intro a b
    have e := cmpF_ord.trans z y x
    rw [cmpF_ord.anti y z, cmpF_ord.anti x y, cmpF_ord.anti x z] at e
    have := e (by omega) (by omega)
    omega
  have hns : (subsF x).length ≤ 200 := by
    unfold subsF
    rw [List.length_map, List.length_range]
    by_cases hz : fErr x = 0
    · exact (fErr_ok (compF_ok hz)).2.1
    · unfold compF; rw [if_neg hz]; exact Nat.zero_le _
  generalize cmpF x y = p at *
  generalize cmpF y z = q at *
  generalize cmpF x z = r at *
  generalize depF x = dx at *
  generalize (maskL fragD (compF x) : Int) = gx at *
  generalize (subsF x).length = ns at *
  unfold maxLen at hm0 hm1 hm2
  clear h0 h1 h2
  by_cases hc : n0 ≤ 60 ∧ n1 ≤ 60 ∧ n2 ≤ 60
  · have d0 : decide (60 < (n0 : Int)) = false := decide_eq_false (by omega)
    have d1 : decide (60 < (n1 : Int)) = false := decide_eq_false (by omega)
    have d2 : decide (60 < (n2 : Int)) = false := decide_eq_false (by omega)
    have e0 : decide (60 < n0) = false := decide_eq_false (by omega)
    have e1 : decide (60 < n1) = false := decide_eq_false (by omega)
    have e2 : decide (60 < n2) = false := decide_eq_false (by omega)
    clear hc
    have hneg : wrap64 (-p) = -p := by unfold wrap64; omega
    have hne1 : (-p != -p) = false := by simp
    have hne2 : (r != r) = false := by simp
    rcases hp with hp | hp | hp <;> rcases hq with hq | hq | hq
    · have a1 : decide (p ≤ 0) = true := decide_eq_true (by omega)
      have a2 : decide (0 ≤ p) = false := decide_eq_false (by omega)
      have a3 : decide (q ≤ 0) = true := decide_eq_true (by omega)
      have a4 : decide (0 ≤ q) = false := decide_eq_false (by omega)
      have hmin : ∀ (ts : Array TypeId) (t : TypeId) (W : World), (Builtin.min_ ts t #[.int .i64 p, .int .i64 q]).run Try.prog W = .ok (.int .i64 r) W := fun ts t W => min2_run ts t p q r W (hlo (by omega) (by omega)).symm
      clear hp hq hlo hhi
      go_enter Try.func9, Try.ntmps9
      go_wp2_with fail
      refine (HAW.out _).mono ?_
      rintro e w1 ⟨rfl, hb⟩
      have HB1 := Lib.hid hb
      clear hb
      go_wp2_with fail
      refine (HXY.out _ HB1.out).mono ?_
      rintro e w2 ⟨rfl, hb⟩
      have HB2 := Lib.hid (HB1.out.trans (hb.mono HB1.out.size))
      clear hb
      go_wp2_with fail
      refine (HYZ.out _ HB2.out).mono ?_
      rintro e w3 ⟨rfl, hb⟩
      have HB3 := Lib.hid (HB2.out.trans (hb.mono HB2.out.size))
      clear hb
      go_wp2_with fail
      refine (HXZ.out _ HB3.out).mono ?_
      rintro e w4 ⟨rfl, hb⟩
      have HB4 := Lib.hid (HB3.out.trans (hb.mono HB3.out.size))
      clear hb
      go_wp2_with fail
      refine (HYX.out _ HB4.out).mono ?_
      rintro e w5 ⟨rfl, hb⟩
      have HB5 := Lib.hid (HB4.out.trans (hb.mono HB4.out.size))
      clear hb
      go_wp2_with fail
      refine (HXX.out _ HB5.out).mono ?_
      rintro e w6 ⟨rfl, hb⟩
      have HB6 := Lib.hid (HB5.out.trans (hb.mono HB5.out.size))
      clear hb
      go_wp2_with fail
      refine (HSB.out _ HB6.out).mono ?_
      rintro e w7 ⟨v, rfl, hL, hb⟩
      have HB7 := Lib.hid (HB6.out.trans (hb.mono HB6.out.size))
      obtain ⟨A, c, rfl, hi⟩ := HIT.out w7 _ v hL HB7.out
      have HI := Lib.hid hi
      clear hb hL hi
      go_wp2
      go_loopw [11, 84] (fun _ i wr => ∃ k : Nat, k ≤ ns ∧ i = .int .i64 k ∧ Hid (Below w7.heap.size w7 wr)) (fun _ i _ => ns - (intOf i).toNat)
      case atStart => exact ⟨0, Nat.zero_le _, rfl, Lib.hid (Below.refl _ _)⟩
      case round =>
        obtain ⟨k, hk, rfl, HB⟩ := hrel
        by_cases hlt : k < ns
        · obtain ⟨ad, Aj, nj, cj, zj, dj, gj, rfl, hcj, hz, hd, hg, hC, hD, hG⟩ := HI.out k hlt
          have hc1 := (HB.out.cell (p := ad.add k) (World.block_lt_of_cell? w7 _ hcj)).trans hcj
          have HCj := Lib.hid hC
          have HDj := Lib.hid hD
          have HGj := Lib.hid hG
          have z1 : decide (0 < zj) = false := decide_eq_false (by omega)
          have z2 : decide (dx < dj) = false := decide_eq_false (by omega)
          clear hcj hC hD hG hz hd
          go_wp2_with fail
          refine (HCj.out _ HB.out).mono ?_
          rintro e w8 ⟨rfl, hb⟩
          have HB8 := Lib.hid (HB.out.trans (hb.mono HB.out.size))
          clear hb
          go_wp2_with fail
          refine (HDj.out _ HB8.out).mono ?_
          rintro e w9 ⟨rfl, hb⟩
          have HB9 := Lib.hid (HB8.out.trans (hb.mono HB8.out.size))
          clear hb
          go_wp2_with fail
          refine (HDX.out _ (HB7.out.trans (HB9.out.mono HB7.out.size))).mono ?_
          rintro e w10 ⟨rfl, hb⟩
          have HB10 := Lib.hid (HB9.out.trans (hb.mono HB9.out.size))
          clear hb
          go_wp2_with fail
          refine (HGj.out _ HB10.out).mono ?_
          rintro e w11 ⟨rfl, hb⟩
          have HB11 := Lib.hid (HB10.out.trans (hb.mono HB10.out.size))
          clear hb
          go_wp2_with fail
          refine (HFX.out _ (HB7.out.trans (HB11.out.mono HB7.out.size))).mono ?_
          rintro e w12 ⟨rfl, hb⟩
          have HB12 := Lib.hid (HB11.out.trans (hb.mono HB11.out.size))
          clear hb hc1
          go_wp2
          go_roundw
          case rel => exact ⟨k + 1, by omega, by go_num, HB12⟩
          case measure => simp [intOf]; omega
        · have hkn : k = ns := by omega
          subst hkn
          go_wp2
          go_ret
          exact ⟨rfl, HB7.out.trans (HB.out.mono HB7.out.size)⟩
    · have a1 : decide (p ≤ 0) = true := decide_eq_true (by omega)
      have a2 : decide (0 ≤ p) = false := decide_eq_false (by omega)
      have a3 : decide (q ≤ 0) = true := decide_eq_true (by omega)
      have a4 : decide (0 ≤ q) = true := decide_eq_true (by omega)
      have hmin : ∀ (ts : Array TypeId) (t : TypeId) (W : World), (Builtin.min_ ts t #[.int .i64 p, .int .i64 q]).run Try.prog W = .ok (.int .i64 r) W := fun ts t W => min2_run ts t p q r W (hlo (by omega) (by omega)).symm
      clear hp hq hlo hhi
      go_enter Try.func9, Try.ntmps9
      go_wp2_with fail
      refine (HAW.out _).mono ?_
      rintro e w1 ⟨rfl, hb⟩
      have HB1 := Lib.hid hb
      clear hb
      go_wp2_with fail
      refine (HXY.out _ HB1.out).mono ?_
      rintro e w2 ⟨rfl, hb⟩
      have HB2 := Lib.hid (HB1.out.trans (hb.mono HB1.out.size))
      clear hb
      go_wp2_with fail
      refine (HYZ.out _ HB2.out).mono ?_
      rintro e w3 ⟨rfl, hb⟩
      have HB3 := Lib.hid (HB2.out.trans (hb.mono HB2.out.size))
      clear hb
      go_wp2_with fail
      refine (HXZ.out _ HB3.out).mono ?_
      rintro e w4 ⟨rfl, hb⟩
      have HB4 := Lib.hid (HB3.out.trans (hb.mono HB3.out.size))
      clear hb
      go_wp2_with fail
      refine (HYX.out _ HB4.out).mono ?_
      rintro e w5 ⟨rfl, hb⟩
      have HB5 := Lib.hid (HB4.out.trans (hb.mono HB4.out.size))
      clear hb
      go_wp2_with fail
      refine (HXX.out _ HB5.out).mono ?_
      rintro e w6 ⟨rfl, hb⟩
      have HB6 := Lib.hid (HB5.out.trans (hb.mono HB5.out.size))
      clear hb
      go_wp2_with fail
      refine (HSB.out _ HB6.out).mono ?_
      rintro e w7 ⟨v, rfl, hL, hb⟩
      have HB7 := Lib.hid (HB6.out.trans (hb.mono HB6.out.size))
      obtain ⟨A, c, rfl, hi⟩ := HIT.out w7 _ v hL HB7.out
      have HI := Lib.hid hi
      clear hb hL hi
      go_wp2
      go_loopw [11, 84] (fun _ i wr => ∃ k : Nat, k ≤ ns ∧ i = .int .i64 k ∧ Hid (Below w7.heap.size w7 wr)) (fun _ i _ => ns - (intOf i).toNat)
      case atStart => exact ⟨0, Nat.zero_le _, rfl, Lib.hid (Below.refl _ _)⟩
      case round =>
        obtain ⟨k, hk, rfl, HB⟩ := hrel
        by_cases hlt : k < ns
        · obtain ⟨ad, Aj, nj, cj, zj, dj, gj, rfl, hcj, hz, hd, hg, hC, hD, hG⟩ := HI.out k hlt
          have hc1 := (HB.out.cell (p := ad.add k) (World.block_lt_of_cell? w7 _ hcj)).trans hcj
          have HCj := Lib.hid hC
          have HDj := Lib.hid hD
          have HGj := Lib.hid hG
          have z1 : decide (0 < zj) = false := decide_eq_false (by omega)
          have z2 : decide (dx < dj) = false := decide_eq_false (by omega)
          clear hcj hC hD hG hz hd
          go_wp2_with fail
          refine (HCj.out _ HB.out).mono ?_
          rintro e w8 ⟨rfl, hb⟩
          have HB8 := Lib.hid (HB.out.trans (hb.mono HB.out.size))
          clear hb
          go_wp2_with fail
          refine (HDj.out _ HB8.out).mono ?_
          rintro e w9 ⟨rfl, hb⟩
          have HB9 := Lib.hid (HB8.out.trans (hb.mono HB8.out.size))
          clear hb
          go_wp2_with fail
          refine (HDX.out _ (HB7.out.trans (HB9.out.mono HB7.out.size))).mono ?_
          rintro e w10 ⟨rfl, hb⟩
          have HB10 := Lib.hid (HB9.out.trans (hb.mono HB9.out.size))
          clear hb
          go_wp2_with fail
          refine (HGj.out _ HB10.out).mono ?_
          rintro e w11 ⟨rfl, hb⟩
          have HB11 := Lib.hid (HB10.out.trans (hb.mono HB10.out.size))
          clear hb
          go_wp2_with fail
          refine (HFX.out _ (HB7.out.trans (HB11.out.mono HB7.out.size))).mono ?_
          rintro e w12 ⟨rfl, hb⟩
          have HB12 := Lib.hid (HB11.out.trans (hb.mono HB11.out.size))
          clear hb hc1
          go_wp2
          go_roundw
          case rel => exact ⟨k + 1, by omega, by go_num, HB12⟩
          case measure => simp [intOf]; omega
        · have hkn : k = ns := by omega
          subst hkn
          go_wp2
          go_ret
          exact ⟨rfl, HB7.out.trans (HB.out.mono HB7.out.size)⟩
    · have a1 : decide (p ≤ 0) = true := decide_eq_true (by omega)
      have a2 : decide (0 ≤ p) = false := decide_eq_false (by omega)
      have a3 : decide (q ≤ 0) = false := decide_eq_false (by omega)
      have a4 : decide (0 ≤ q) = true := decide_eq_true (by omega)
      clear hp hq hlo hhi
      go_enter Try.func9, Try.ntmps9
      go_wp2_with fail
      refine (HAW.out _).mono ?_
      rintro e w1 ⟨rfl, hb⟩
      have HB1 := Lib.hid hb
      clear hb
      go_wp2_with fail
      refine (HXY.out _ HB1.out).mono ?_
      rintro e w2 ⟨rfl, hb⟩
      have HB2 := Lib.hid (HB1.out.trans (hb.mono HB1.out.size))
      clear hb
      go_wp2_with fail
      refine (HYZ.out _ HB2.out).mono ?_
      rintro e w3 ⟨rfl, hb⟩
      have HB3 := Lib.hid (HB2.out.trans (hb.mono HB2.out.size))
      clear hb
      go_wp2_with fail
      refine (HXZ.out _ HB3.out).mono ?_
      rintro e w4 ⟨rfl, hb⟩
      have HB4 := Lib.hid (HB3.out.trans (hb.mono HB3.out.size))
      clear hb
      go_wp2_with fail
      refine (HYX.out _ HB4.out).mono ?_
      rintro e w5 ⟨rfl, hb⟩
      have HB5 := Lib.hid (HB4.out.trans (hb.mono HB4.out.size))
      clear hb
      go_wp2_with fail
      refine (HXX.out _ HB5.out).mono ?_
      rintro e w6 ⟨rfl, hb⟩
      have HB6 := Lib.hid (HB5.out.trans (hb.mono HB5.out.size))
      clear hb
      go_wp2_with fail
      refine (HSB.out _ HB6.out).mono ?_
      rintro e w7 ⟨v, rfl, hL, hb⟩
      have HB7 := Lib.hid (HB6.out.trans (hb.mono HB6.out.size))
      obtain ⟨A, c, rfl, hi⟩ := HIT.out w7 _ v hL HB7.out
      have HI := Lib.hid hi
      clear hb hL hi
      go_wp2
      go_loopw [11, 84] (fun _ i wr => ∃ k : Nat, k ≤ ns ∧ i = .int .i64 k ∧ Hid (Below w7.heap.size w7 wr)) (fun _ i _ => ns - (intOf i).toNat)
      case atStart => exact ⟨0, Nat.zero_le _, rfl, Lib.hid (Below.refl _ _)⟩
      case round =>
        obtain ⟨k, hk, rfl, HB⟩ := hrel
        by_cases hlt : k < ns
        · obtain ⟨ad, Aj, nj, cj, zj, dj, gj, rfl, hcj, hz, hd, hg, hC, hD, hG⟩ := HI.out k hlt
          have hc1 := (HB.out.cell (p := ad.add k) (World.block_lt_of_cell? w7 _ hcj)).trans hcj
          have HCj := Lib.hid hC
          have HDj := Lib.hid hD
          have HGj := Lib.hid hG
          have z1 : decide (0 < zj) = false := decide_eq_false (by omega)
          have z2 : decide (dx < dj) = false := decide_eq_false (by omega)
          clear hcj hC hD hG hz hd
          go_wp2_with fail
          refine (HCj.out _ HB.out).mono ?_
          rintro e w8 ⟨rfl, hb⟩
          have HB8 := Lib.hid (HB.out.trans (hb.mono HB.out.size))
          clear hb
          go_wp2_with fail
          refine (HDj.out _ HB8.out).mono ?_
          rintro e w9 ⟨rfl, hb⟩
          have HB9 := Lib.hid (HB8.out.trans (hb.mono HB8.out.size))
          clear hb
          go_wp2_with fail
          refine (HDX.out _ (HB7.out.trans (HB9.out.mono HB7.out.size))).mono ?_
          rintro e w10 ⟨rfl, hb⟩
          have HB10 := Lib.hid (HB9.out.trans (hb.mono HB9.out.size))
          clear hb
          go_wp2_with fail
          refine (HGj.out _ HB10.out).mono ?_
          rintro e w11 ⟨rfl, hb⟩
          have HB11 := Lib.hid (HB10.out.trans (hb.mono HB10.out.size))
          clear hb
          go_wp2_with fail
          refine (HFX.out _ (HB7.out.trans (HB11.out.mono HB7.out.size))).mono ?_
          rintro e w12 ⟨rfl, hb⟩
          have HB12 := Lib.hid (HB11.out.trans (hb.mono HB11.out.size))
          clear hb hc1
          go_wp2
          go_roundw
          case rel => exact ⟨k + 1, by omega, by go_num, HB12⟩
          case measure => simp [intOf]; omega
        · have hkn : k = ns := by omega
          subst hkn
          go_wp2
          go_ret
          exact ⟨rfl, HB7.out.trans (HB.out.mono HB7.out.size)⟩
    · have a1 : decide (p ≤ 0) = true := decide_eq_true (by omega)
      have a2 : decide (0 ≤ p) = true := decide_eq_true (by omega)
      have a3 : decide (q ≤ 0) = true := decide_eq_true (by omega)
      have a4 : decide (0 ≤ q) = false := decide_eq_false (by omega)
      have hmin : ∀ (ts : Array TypeId) (t : TypeId) (W : World), (Builtin.min_ ts t #[.int .i64 p, .int .i64 q]).run Try.prog W = .ok (.int .i64 r) W := fun ts t W => min2_run ts t p q r W (hlo (by omega) (by omega)).symm
      clear hp hq hlo hhi
      go_enter Try.func9, Try.ntmps9
      go_wp2_with fail
      refine (HAW.out _).mono ?_
      rintro e w1 ⟨rfl, hb⟩
      have HB1 := Lib.hid hb
      clear hb
      go_wp2_with fail
      refine (HXY.out _ HB1.out).mono ?_
      rintro e w2 ⟨rfl, hb⟩
      have HB2 := Lib.hid (HB1.out.trans (hb.mono HB1.out.size))
      clear hb
      go_wp2_with fail
      refine (HYZ.out _ HB2.out).mono ?_
      rintro e w3 ⟨rfl, hb⟩
      have HB3 := Lib.hid (HB2.out.trans (hb.mono HB2.out.size))
      clear hb
      go_wp2_with fail
      refine (HXZ.out _ HB3.out).mono ?_
      rintro e w4 ⟨rfl, hb⟩
      have HB4 := Lib.hid (HB3.out.trans (hb.mono HB3.out.size))
      clear hb
      go_wp2_with fail
      refine (HYX.out _ HB4.out).mono ?_
      rintro e w5 ⟨rfl, hb⟩
      have HB5 := Lib.hid (HB4.out.trans (hb.mono HB4.out.size))
      clear hb
      go_wp2_with fail
      refine (HXX.out _ HB5.out).mono ?_
      rintro e w6 ⟨rfl, hb⟩
      have HB6 := Lib.hid (HB5.out.trans (hb.mono HB5.out.size))
      clear hb
      go_wp2_with fail
      refine (HSB.out _ HB6.out).mono ?_
      rintro e w7 ⟨v, rfl, hL, hb⟩
      have HB7 := Lib.hid (HB6.out.trans (hb.mono HB6.out.size))
      obtain ⟨A, c, rfl, hi⟩ := HIT.out w7 _ v hL HB7.out
      have HI := Lib.hid hi
      clear hb hL hi
      go_wp2
      go_loopw [11, 84] (fun _ i wr => ∃ k : Nat, k ≤ ns ∧ i = .int .i64 k ∧ Hid (Below w7.heap.size w7 wr)) (fun _ i _ => ns - (intOf i).toNat)
      case atStart => exact ⟨0, Nat.zero_le _, rfl, Lib.hid (Below.refl _ _)⟩
      case round =>
        obtain ⟨k, hk, rfl, HB⟩ := hrel
        by_cases hlt : k < ns
        · obtain ⟨ad, Aj, nj, cj, zj, dj, gj, rfl, hcj, hz, hd, hg, hC, hD, hG⟩ := HI.out k hlt
          have hc1 := (HB.out.cell (p := ad.add k) (World.block_lt_of_cell? w7 _ hcj)).trans hcj
          have HCj := Lib.hid hC
          have HDj := Lib.hid hD
          have HGj := Lib.hid hG
          have z1 : decide (0 < zj) = false := decide_eq_false (by omega)
          have z2 : decide (dx < dj) = false := decide_eq_false (by omega)
          clear hcj hC hD hG hz hd
          go_wp2_with fail
          refine (HCj.out _ HB.out).mono ?_
          rintro e w8 ⟨rfl, hb⟩
          have HB8 := Lib.hid (HB.out.trans (hb.mono HB.out.size))
          clear hb
          go_wp2_with fail
          refine (HDj.out _ HB8.out).mono ?_
          rintro e w9 ⟨rfl, hb⟩
          have HB9 := Lib.hid (HB8.out.trans (hb.mono HB8.out.size))
          clear hb
          go_wp2_with fail
          refine (HDX.out _ (HB7.out.trans (HB9.out.mono HB7.out.size))).mono ?_
          rintro e w10 ⟨rfl, hb⟩
          have HB10 := Lib.hid (HB9.out.trans (hb.mono HB9.out.size))
          clear hb
          go_wp2_with fail
          refine (HGj.out _ HB10.out).mono ?_
          rintro e w11 ⟨rfl, hb⟩
          have HB11 := Lib.hid (HB10.out.trans (hb.mono HB10.out.size))
          clear hb
          go_wp2_with fail
          refine (HFX.out _ (HB7.out.trans (HB11.out.mono HB7.out.size))).mono ?_
          rintro e w12 ⟨rfl, hb⟩
          have HB12 := Lib.hid (HB11.out.trans (hb.mono HB11.out.size))
          clear hb hc1
          go_wp2
          go_roundw
          case rel => exact ⟨k + 1, by omega, by go_num, HB12⟩
          case measure => simp [intOf]; omega
        · have hkn : k = ns := by omega
          subst hkn
          go_wp2
          go_ret
          exact ⟨rfl, HB7.out.trans (HB.out.mono HB7.out.size)⟩
    · have a1 : decide (p ≤ 0) = true := decide_eq_true (by omega)
      have a2 : decide (0 ≤ p) = true := decide_eq_true (by omega)
      have a3 : decide (q ≤ 0) = true := decide_eq_true (by omega)
      have a4 : decide (0 ≤ q) = true := decide_eq_true (by omega)
      have hmin : ∀ (ts : Array TypeId) (t : TypeId) (W : World), (Builtin.min_ ts t #[.int .i64 p, .int .i64 q]).run Try.prog W = .ok (.int .i64 r) W := fun ts t W => min2_run ts t p q r W (hlo (by omega) (by omega)).symm
      have hmax : ∀ (ts : Array TypeId) (t : TypeId) (W : World), (Builtin.max_ ts t #[.int .i64 p, .int .i64 q]).run Try.prog W = .ok (.int .i64 r) W := fun ts t W => max2_run ts t p q r W (hhi (by omega) (by omega)).symm
      clear hp hq hlo hhi
      go_enter Try.func9, Try.ntmps9
      go_wp2_with fail
      refine (HAW.out _).mono ?_
      rintro e w1 ⟨rfl, hb⟩
      have HB1 := Lib.hid hb
      clear hb
      go_wp2_with fail
      refine (HXY.out _ HB1.out).mono ?_
      rintro e w2 ⟨rfl, hb⟩
      have HB2 := Lib.hid (HB1.out.trans (hb.mono HB1.out.size))
      clear hb
      go_wp2_with fail
      refine (HYZ.out _ HB2.out).mono ?_
      rintro e w3 ⟨rfl, hb⟩
      have HB3 := Lib.hid (HB2.out.trans (hb.mono HB2.out.size))
      clear hb
      go_wp2_with fail
      refine (HXZ.out _ HB3.out).mono ?_
      rintro e w4 ⟨rfl, hb⟩
      have HB4 := Lib.hid (HB3.out.trans (hb.mono HB3.out.size))
      clear hb
      go_wp2_with fail
      refine (HYX.out _ HB4.out).mono ?_
      rintro e w5 ⟨rfl, hb⟩
      have HB5 := Lib.hid (HB4.out.trans (hb.mono HB4.out.size))
      clear hb
      go_wp2_with fail
      refine (HXX.out _ HB5.out).mono ?_
      rintro e w6 ⟨rfl, hb⟩
      have HB6 := Lib.hid (HB5.out.trans (hb.mono HB5.out.size))
      clear hb
      go_wp2_with fail
      refine (HSB.out _ HB6.out).mono ?_
      rintro e w7 ⟨v, rfl, hL, hb⟩
      have HB7 := Lib.hid (HB6.out.trans (hb.mono HB6.out.size))
      obtain ⟨A, c, rfl, hi⟩ := HIT.out w7 _ v hL HB7.out
      have HI := Lib.hid hi
      clear hb hL hi
      go_wp2
      go_loopw [11, 84] (fun _ i wr => ∃ k : Nat, k ≤ ns ∧ i = .int .i64 k ∧ Hid (Below w7.heap.size w7 wr)) (fun _ i _ => ns - (intOf i).toNat)
      case atStart => exact ⟨0, Nat.zero_le _, rfl, Lib.hid (Below.refl _ _)⟩
      case round =>
        obtain ⟨k, hk, rfl, HB⟩ := hrel
        by_cases hlt : k < ns
        · obtain ⟨ad, Aj, nj, cj, zj, dj, gj, rfl, hcj, hz, hd, hg, hC, hD, hG⟩ := HI.out k hlt
          have hc1 := (HB.out.cell (p := ad.add k) (World.block_lt_of_cell? w7 _ hcj)).trans hcj
          have HCj := Lib.hid hC
          have HDj := Lib.hid hD
          have HGj := Lib.hid hG
          have z1 : decide (0 < zj) = false := decide_eq_false (by omega)
          have z2 : decide (dx < dj) = false := decide_eq_false (by omega)
          clear hcj hC hD hG hz hd
          go_wp2_with fail
          refine (HCj.out _ HB.out).mono ?_
          rintro e w8 ⟨rfl, hb⟩
          have HB8 := Lib.hid (HB.out.trans (hb.mono HB.out.size))
          clear hb
          go_wp2_with fail
          refine (HDj.out _ HB8.out).mono ?_
          rintro e w9 ⟨rfl, hb⟩
          have HB9 := Lib.hid (HB8.out.trans (hb.mono HB8.out.size))
          clear hb
          go_wp2_with fail
          refine (HDX.out _ (HB7.out.trans (HB9.out.mono HB7.out.size))).mono ?_
          rintro e w10 ⟨rfl, hb⟩
          have HB10 := Lib.hid (HB9.out.trans (hb.mono HB9.out.size))
          clear hb
          go_wp2_with fail
          refine (HGj.out _ HB10.out).mono ?_
          rintro e w11 ⟨rfl, hb⟩
          have HB11 := Lib.hid (HB10.out.trans (hb.mono HB10.out.size))
          clear hb
          go_wp2_with fail
          refine (HFX.out _ (HB7.out.trans (HB11.out.mono HB7.out.size))).mono ?_
          rintro e w12 ⟨rfl, hb⟩
          have HB12 := Lib.hid (HB11.out.trans (hb.mono HB11.out.size))
          clear hb hc1
          go_wp2
          go_roundw
          case rel => exact ⟨k + 1, by omega, by go_num, HB12⟩
          case measure => simp [intOf]; omega
        · have hkn : k = ns := by omega
          subst hkn
          go_wp2
          go_ret
          exact ⟨rfl, HB7.out.trans (HB.out.mono HB7.out.size)⟩
    · have a1 : decide (p ≤ 0) = true := decide_eq_true (by omega)
      have a2 : decide (0 ≤ p) = true := decide_eq_true (by omega)
      have a3 : decide (q ≤ 0) = false := decide_eq_false (by omega)
      have a4 : decide (0 ≤ q) = true := decide_eq_true (by omega)
      have hmax : ∀ (ts : Array TypeId) (t : TypeId) (W : World), (Builtin.max_ ts t #[.int .i64 p, .int .i64 q]).run Try.prog W = .ok (.int .i64 r) W := fun ts t W => max2_run ts t p q r W (hhi (by omega) (by omega)).symm
      clear hp hq hlo hhi
      go_enter Try.func9, Try.ntmps9
      go_wp2_with fail
      refine (HAW.out _).mono ?_
      rintro e w1 ⟨rfl, hb⟩
      have HB1 := Lib.hid hb
      clear hb
      go_wp2_with fail
      refine (HXY.out _ HB1.out).mono ?_
      rintro e w2 ⟨rfl, hb⟩
      have HB2 := Lib.hid (HB1.out.trans (hb.mono HB1.out.size))
      clear hb
      go_wp2_with fail
      refine (HYZ.out _ HB2.out).mono ?_
      rintro e w3 ⟨rfl, hb⟩
      have HB3 := Lib.hid (HB2.out.trans (hb.mono HB2.out.size))
      clear hb
      go_wp2_with fail
      refine (HXZ.out _ HB3.out).mono ?_
      rintro e w4 ⟨rfl, hb⟩
      have HB4 := Lib.hid (HB3.out.trans (hb.mono HB3.out.size))
      clear hb
      go_wp2_with fail
      refine (HYX.out _ HB4.out).mono ?_
      rintro e w5 ⟨rfl, hb⟩
      have HB5 := Lib.hid (HB4.out.trans (hb.mono HB4.out.size))
      clear hb
      go_wp2_with fail
      refine (HXX.out _ HB5.out).mono ?_
      rintro e w6 ⟨rfl, hb⟩
      have HB6 := Lib.hid (HB5.out.trans (hb.mono HB5.out.size))
      clear hb
      go_wp2_with fail
      refine (HSB.out _ HB6.out).mono ?_
      rintro e w7 ⟨v, rfl, hL, hb⟩
      have HB7 := Lib.hid (HB6.out.trans (hb.mono HB6.out.size))
      obtain ⟨A, c, rfl, hi⟩ := HIT.out w7 _ v hL HB7.out
      have HI := Lib.hid hi
      clear hb hL hi
      go_wp2
      go_loopw [11, 84] (fun _ i wr => ∃ k : Nat, k ≤ ns ∧ i = .int .i64 k ∧ Hid (Below w7.heap.size w7 wr)) (fun _ i _ => ns - (intOf i).toNat)
      case atStart => exact ⟨0, Nat.zero_le _, rfl, Lib.hid (Below.refl _ _)⟩
      case round =>
        obtain ⟨k, hk, rfl, HB⟩ := hrel
        by_cases hlt : k < ns
        · obtain ⟨ad, Aj, nj, cj, zj, dj, gj, rfl, hcj, hz, hd, hg, hC, hD, hG⟩ := HI.out k hlt
          have hc1 := (HB.out.cell (p := ad.add k) (World.block_lt_of_cell? w7 _ hcj)).trans hcj
          have HCj := Lib.hid hC
          have HDj := Lib.hid hD
          have HGj := Lib.hid hG
          have z1 : decide (0 < zj) = false := decide_eq_false (by omega)
          have z2 : decide (dx < dj) = false := decide_eq_false (by omega)
          clear hcj hC hD hG hz hd
          go_wp2_with fail
          refine (HCj.out _ HB.out).mono ?_
          rintro e w8 ⟨rfl, hb⟩
          have HB8 := Lib.hid (HB.out.trans (hb.mono HB.out.size))
          clear hb
          go_wp2_with fail
          refine (HDj.out _ HB8.out).mono ?_
          rintro e w9 ⟨rfl, hb⟩
          have HB9 := Lib.hid (HB8.out.trans (hb.mono HB8.out.size))
          clear hb
          go_wp2_with fail
          refine (HDX.out _ (HB7.out.trans (HB9.out.mono HB7.out.size))).mono ?_
          rintro e w10 ⟨rfl, hb⟩
          have HB10 := Lib.hid (HB9.out.trans (hb.mono HB9.out.size))
          clear hb
          go_wp2_with fail
          refine (HGj.out _ HB10.out).mono ?_
          rintro e w11 ⟨rfl, hb⟩
          have HB11 := Lib.hid (HB10.out.trans (hb.mono HB10.out.size))
          clear hb
          go_wp2_with fail
          refine (HFX.out _ (HB7.out.trans (HB11.out.mono HB7.out.size))).mono ?_
          rintro e w12 ⟨rfl, hb⟩
          have HB12 := Lib.hid (HB11.out.trans (hb.mono HB11.out.size))
          clear hb hc1
          go_wp2
          go_roundw
          case rel => exact ⟨k + 1, by omega, by go_num, HB12⟩
          case measure => simp [intOf]; omega
        · have hkn : k = ns := by omega
          subst hkn
          go_wp2
          go_ret
          exact ⟨rfl, HB7.out.trans (HB.out.mono HB7.out.size)⟩
    · have a1 : decide (p ≤ 0) = false := decide_eq_false (by omega)
      have a2 : decide (0 ≤ p) = true := decide_eq_true (by omega)
      have a3 : decide (q ≤ 0) = true := decide_eq_true (by omega)
      have a4 : decide (0 ≤ q) = false := decide_eq_false (by omega)
      clear hp hq hlo hhi
      go_enter Try.func9, Try.ntmps9
      go_wp2_with fail
      refine (HAW.out _).mono ?_
      rintro e w1 ⟨rfl, hb⟩
      have HB1 := Lib.hid hb
      clear hb
      go_wp2_with fail
      refine (HXY.out _ HB1.out).mono ?_
      rintro e w2 ⟨rfl, hb⟩
      have HB2 := Lib.hid (HB1.out.trans (hb.mono HB1.out.size))
      clear hb
      go_wp2_with fail
      refine (HYZ.out _ HB2.out).mono ?_
      rintro e w3 ⟨rfl, hb⟩
      have HB3 := Lib.hid (HB2.out.trans (hb.mono HB2.out.size))
      clear hb
      go_wp2_with fail
      refine (HXZ.out _ HB3.out).mono ?_
      rintro e w4 ⟨rfl, hb⟩
      have HB4 := Lib.hid (HB3.out.trans (hb.mono HB3.out.size))
      clear hb
      go_wp2_with fail
      refine (HYX.out _ HB4.out).mono ?_
      rintro e w5 ⟨rfl, hb⟩
      have HB5 := Lib.hid (HB4.out.trans (hb.mono HB4.out.size))
      clear hb
      go_wp2_with fail
      refine (HXX.out _ HB5.out).mono ?_
      rintro e w6 ⟨rfl, hb⟩
      have HB6 := Lib.hid (HB5.out.trans (hb.mono HB5.out.size))
      clear hb
      go_wp2_with fail
      refine (HSB.out _ HB6.out).mono ?_
      rintro e w7 ⟨v, rfl, hL, hb⟩
      have HB7 := Lib.hid (HB6.out.trans (hb.mono HB6.out.size))
      obtain ⟨A, c, rfl, hi⟩ := HIT.out w7 _ v hL HB7.out
      have HI := Lib.hid hi
      clear hb hL hi
      go_wp2
      go_loopw [11, 84] (fun _ i wr => ∃ k : Nat, k ≤ ns ∧ i = .int .i64 k ∧ Hid (Below w7.heap.size w7 wr)) (fun _ i _ => ns - (intOf i).toNat)
      case atStart => exact ⟨0, Nat.zero_le _, rfl, Lib.hid (Below.refl _ _)⟩
      case round =>
        obtain ⟨k, hk, rfl, HB⟩ := hrel
        by_cases hlt : k < ns
        · obtain ⟨ad, Aj, nj, cj, zj, dj, gj, rfl, hcj, hz, hd, hg, hC, hD, hG⟩ := HI.out k hlt
          have hc1 := (HB.out.cell (p := ad.add k) (World.block_lt_of_cell? w7 _ hcj)).trans hcj
          have HCj := Lib.hid hC
          have HDj := Lib.hid hD
          have HGj := Lib.hid hG
          have z1 : decide (0 < zj) = false := decide_eq_false (by omega)
          have z2 : decide (dx < dj) = false := decide_eq_false (by omega)
          clear hcj hC hD hG hz hd
          go_wp2_with fail
          refine (HCj.out _ HB.out).mono ?_
          rintro e w8 ⟨rfl, hb⟩
          have HB8 := Lib.hid (HB.out.trans (hb.mono HB.out.size))
          clear hb
          go_wp2_with fail
          refine (HDj.out _ HB8.out).mono ?_
          rintro e w9 ⟨rfl, hb⟩
          have HB9 := Lib.hid (HB8.out.trans (hb.mono HB8.out.size))
          clear hb
          go_wp2_with fail
          refine (HDX.out _ (HB7.out.trans (HB9.out.mono HB7.out.size))).mono ?_
          rintro e w10 ⟨rfl, hb⟩
          have HB10 := Lib.hid (HB9.out.trans (hb.mono HB9.out.size))
          clear hb
          go_wp2_with fail
          refine (HGj.out _ HB10.out).mono ?_
          rintro e w11 ⟨rfl, hb⟩
          have HB11 := Lib.hid (HB10.out.trans (hb.mono HB10.out.size))
          clear hb
          go_wp2_with fail
          refine (HFX.out _ (HB7.out.trans (HB11.out.mono HB7.out.size))).mono ?_
          rintro e w12 ⟨rfl, hb⟩
          have HB12 := Lib.hid (HB11.out.trans (hb.mono HB11.out.size))
          clear hb hc1
          go_wp2
          go_roundw
          case rel => exact ⟨k + 1, by omega, by go_num, HB12⟩
          case measure => simp [intOf]; omega
        · have hkn : k = ns := by omega
          subst hkn
          go_wp2
          go_ret
          exact ⟨rfl, HB7.out.trans (HB.out.mono HB7.out.size)⟩
    · have a1 : decide (p ≤ 0) = false := decide_eq_false (by omega)
      have a2 : decide (0 ≤ p) = true := decide_eq_true (by omega)
      have a3 : decide (q ≤ 0) = true := decide_eq_true (by omega)
      have a4 : decide (0 ≤ q) = true := decide_eq_true (by omega)
      have hmax : ∀ (ts : Array TypeId) (t : TypeId) (W : World), (Builtin.max_ ts t #[.int .i64 p, .int .i64 q]).run Try.prog W = .ok (.int .i64 r) W := fun ts t W => max2_run ts t p q r W (hhi (by omega) (by omega)).symm
      clear hp hq hlo hhi
      go_enter Try.func9, Try.ntmps9
      go_wp2_with fail
      refine (HAW.out _).mono ?_
      rintro e w1 ⟨rfl, hb⟩
      have HB1 := Lib.hid hb
      clear hb
      go_wp2_with fail
      refine (HXY.out _ HB1.out).mono ?_
      rintro e w2 ⟨rfl, hb⟩
      have HB2 := Lib.hid (HB1.out.trans (hb.mono HB1.out.size))
      clear hb
      go_wp2_with fail
      refine (HYZ.out _ HB2.out).mono ?_
      rintro e w3 ⟨rfl, hb⟩
      have HB3 := Lib.hid (HB2.out.trans (hb.mono HB2.out.size))
      clear hb
      go_wp2_with fail
      refine (HXZ.out _ HB3.out).mono ?_
      rintro e w4 ⟨rfl, hb⟩
      have HB4 := Lib.hid (HB3.out.trans (hb.mono HB3.out.size))
      clear hb
      go_wp2_with fail
      refine (HYX.out _ HB4.out).mono ?_
      rintro e w5 ⟨rfl, hb⟩
      have HB5 := Lib.hid (HB4.out.trans (hb.mono HB4.out.size))
      clear hb
      go_wp2_with fail
      refine (HXX.out _ HB5.out).mono ?_
      rintro e w6 ⟨rfl, hb⟩
      have HB6 := Lib.hid (HB5.out.trans (hb.mono HB5.out.size))
      clear hb
      go_wp2_with fail
      refine (HSB.out _ HB6.out).mono ?_
      rintro e w7 ⟨v, rfl, hL, hb⟩
      have HB7 := Lib.hid (HB6.out.trans (hb.mono HB6.out.size))
      obtain ⟨A, c, rfl, hi⟩ := HIT.out w7 _ v hL HB7.out
      have HI := Lib.hid hi
      clear hb hL hi
      go_wp2
      go_loopw [11, 84] (fun _ i wr => ∃ k : Nat, k ≤ ns ∧ i = .int .i64 k ∧ Hid (Below w7.heap.size w7 wr)) (fun _ i _ => ns - (intOf i).toNat)
      case atStart => exact ⟨0, Nat.zero_le _, rfl, Lib.hid (Below.refl _ _)⟩
      case round =>
        obtain ⟨k, hk, rfl, HB⟩ := hrel
        by_cases hlt : k < ns
        · obtain ⟨ad, Aj, nj, cj, zj, dj, gj, rfl, hcj, hz, hd, hg, hC, hD, hG⟩ := HI.out k hlt
          have hc1 := (HB.out.cell (p := ad.add k) (World.block_lt_of_cell? w7 _ hcj)).trans hcj
          have HCj := Lib.hid hC
          have HDj := Lib.hid hD
          have HGj := Lib.hid hG
          have z1 : decide (0 < zj) = false := decide_eq_false (by omega)
          have z2 : decide (dx < dj) = false := decide_eq_false (by omega)
          clear hcj hC hD hG hz hd
          go_wp2_with fail
          refine (HCj.out _ HB.out).mono ?_
          rintro e w8 ⟨rfl, hb⟩
          have HB8 := Lib.hid (HB.out.trans (hb.mono HB.out.size))
          clear hb
          go_wp2_with fail
          refine (HDj.out _ HB8.out).mono ?_
          rintro e w9 ⟨rfl, hb⟩
          have HB9 := Lib.hid (HB8.out.trans (hb.mono HB8.out.size))
          clear hb
          go_wp2_with fail
          refine (HDX.out _ (HB7.out.trans (HB9.out.mono HB7.out.size))).mono ?_
          rintro e w10 ⟨rfl, hb⟩
          have HB10 := Lib.hid (HB9.out.trans (hb.mono HB9.out.size))
          clear hb
          go_wp2_with fail
          refine (HGj.out _ HB10.out).mono ?_
          rintro e w11 ⟨rfl, hb⟩
          have HB11 := Lib.hid (HB10.out.trans (hb.mono HB10.out.size))
          clear hb
          go_wp2_with fail
          refine (HFX.out _ (HB7.out.trans (HB11.out.mono HB7.out.size))).mono ?_
          rintro e w12 ⟨rfl, hb⟩
          have HB12 := Lib.hid (HB11.out.trans (hb.mono HB11.out.size))
          clear hb hc1
          go_wp2
          go_roundw
          case rel => exact ⟨k + 1, by omega, by go_num, HB12⟩
          case measure => simp [intOf]; omega
        · have hkn : k = ns := by omega
          subst hkn
          go_wp2
          go_ret
          exact ⟨rfl, HB7.out.trans (HB.out.mono HB7.out.size)⟩
    · have a1 : decide (p ≤ 0) = false := decide_eq_false (by omega)
      have a2 : decide (0 ≤ p) = true := decide_eq_true (by omega)
      have a3 : decide (q ≤ 0) = false := decide_eq_false (by omega)
      have a4 : decide (0 ≤ q) = true := decide_eq_true (by omega)
      have hmax : ∀ (ts : Array TypeId) (t : TypeId) (W : World), (Builtin.max_ ts t #[.int .i64 p, .int .i64 q]).run Try.prog W = .ok (.int .i64 r) W := fun ts t W => max2_run ts t p q r W (hhi (by omega) (by omega)).symm
      clear hp hq hlo hhi
      go_enter Try.func9, Try.ntmps9
      go_wp2_with fail
      refine (HAW.out _).mono ?_
      rintro e w1 ⟨rfl, hb⟩
      have HB1 := Lib.hid hb
      clear hb
      go_wp2_with fail
      refine (HXY.out _ HB1.out).mono ?_
      rintro e w2 ⟨rfl, hb⟩
      have HB2 := Lib.hid (HB1.out.trans (hb.mono HB1.out.size))
      clear hb
      go_wp2_with fail
      refine (HYZ.out _ HB2.out).mono ?_
      rintro e w3 ⟨rfl, hb⟩
      have HB3 := Lib.hid (HB2.out.trans (hb.mono HB2.out.size))
      clear hb
      go_wp2_with fail
      refine (HXZ.out _ HB3.out).mono ?_
      rintro e w4 ⟨rfl, hb⟩
      have HB4 := Lib.hid (HB3.out.trans (hb.mono HB3.out.size))
      clear hb
      go_wp2_with fail
      refine (HYX.out _ HB4.out).mono ?_
      rintro e w5 ⟨rfl, hb⟩
      have HB5 := Lib.hid (HB4.out.trans (hb.mono HB4.out.size))
      clear hb
      go_wp2_with fail
      refine (HXX.out _ HB5.out).mono ?_
      rintro e w6 ⟨rfl, hb⟩
      have HB6 := Lib.hid (HB5.out.trans (hb.mono HB5.out.size))
      clear hb
      go_wp2_with fail
      refine (HSB.out _ HB6.out).mono ?_
      rintro e w7 ⟨v, rfl, hL, hb⟩
      have HB7 := Lib.hid (HB6.out.trans (hb.mono HB6.out.size))
      obtain ⟨A, c, rfl, hi⟩ := HIT.out w7 _ v hL HB7.out
      have HI := Lib.hid hi
      clear hb hL hi
      go_wp2
      go_loopw [11, 84] (fun _ i wr => ∃ k : Nat, k ≤ ns ∧ i = .int .i64 k ∧ Hid (Below w7.heap.size w7 wr)) (fun _ i _ => ns - (intOf i).toNat)
      case atStart => exact ⟨0, Nat.zero_le _, rfl, Lib.hid (Below.refl _ _)⟩
      case round =>
        obtain ⟨k, hk, rfl, HB⟩ := hrel
        by_cases hlt : k < ns
        · obtain ⟨ad, Aj, nj, cj, zj, dj, gj, rfl, hcj, hz, hd, hg, hC, hD, hG⟩ := HI.out k hlt
          have hc1 := (HB.out.cell (p := ad.add k) (World.block_lt_of_cell? w7 _ hcj)).trans hcj
          have HCj := Lib.hid hC
          have HDj := Lib.hid hD
          have HGj := Lib.hid hG
          have z1 : decide (0 < zj) = false := decide_eq_false (by omega)
          have z2 : decide (dx < dj) = false := decide_eq_false (by omega)
          clear hcj hC hD hG hz hd
          go_wp2_with fail
          refine (HCj.out _ HB.out).mono ?_
          rintro e w8 ⟨rfl, hb⟩
          have HB8 := Lib.hid (HB.out.trans (hb.mono HB.out.size))
          clear hb
          go_wp2_with fail
          refine (HDj.out _ HB8.out).mono ?_
          rintro e w9 ⟨rfl, hb⟩
          have HB9 := Lib.hid (HB8.out.trans (hb.mono HB8.out.size))
          clear hb
          go_wp2_with fail
          refine (HDX.out _ (HB7.out.trans (HB9.out.mono HB7.out.size))).mono ?_
          rintro e w10 ⟨rfl, hb⟩
          have HB10 := Lib.hid (HB9.out.trans (hb.mono HB9.out.size))
          clear hb
          go_wp2_with fail
          refine (HGj.out _ HB10.out).mono ?_
          rintro e w11 ⟨rfl, hb⟩
          have HB11 := Lib.hid (HB10.out.trans (hb.mono HB10.out.size))
          clear hb
          go_wp2_with fail
          refine (HFX.out _ (HB7.out.trans (HB11.out.mono HB7.out.size))).mono ?_
          rintro e w12 ⟨rfl, hb⟩
          have HB12 := Lib.hid (HB11.out.trans (hb.mono HB11.out.size))
          clear hb hc1
          go_wp2
          go_roundw
          case rel => exact ⟨k + 1, by omega, by go_num, HB12⟩
          case measure => simp [intOf]; omega
        · have hkn : k = ns := by omega
          subst hkn
          go_wp2
          go_ret
          exact ⟨rfl, HB7.out.trans (HB.out.mono HB7.out.size)⟩
  · by_cases h0 : n0 ≤ 60
    · by_cases h1 : n1 ≤ 60
      · have d0 : decide (60 < (n0 : Int)) = false := decide_eq_false (by omega)
        have d1 : decide (60 < (n1 : Int)) = false := decide_eq_false (by omega)
        have d2 : decide (60 < (n2 : Int)) = true := decide_eq_true (by omega)
        have e0 : decide (60 < n0) = false := decide_eq_false (by omega)
        have e1 : decide (60 < n1) = false := decide_eq_false (by omega)
        have e2 : decide (60 < n2) = true := decide_eq_true (by omega)
        clear hc
        go_enter Try.func9, Try.ntmps9
        go_wp2_with fail
        refine (HAW.out _).mono ?_
        rintro e w1 ⟨rfl, hb⟩
        have HB1 := Lib.hid hb
        clear hb
        go_wp2_with fail
        refine (HAW.out _).mono ?_
        rintro e w2 ⟨rfl, hb⟩
        have HB2 := Lib.hid (HB1.out.trans (hb.mono HB1.out.size))
        clear hb
        go_wp2
        go_ret
        exact ⟨rfl, HB2.out⟩
      · have d0 : decide (60 < (n0 : Int)) = false := decide_eq_false (by omega)
        have d1 : decide (60 < (n1 : Int)) = true := decide_eq_true (by omega)
        have e0 : decide (60 < n0) = false := decide_eq_false (by omega)
        have e1 : decide (60 < n1) = true := decide_eq_true (by omega)
        clear hc
        go_enter Try.func9, Try.ntmps9
        go_wp2_with fail
        refine (HAW.out _).mono ?_
        rintro e w1 ⟨rfl, hb⟩
        have HB1 := Lib.hid hb
        clear hb
        go_wp2_with fail
        refine (HAW.out _).mono ?_
        rintro e w2 ⟨rfl, hb⟩
        have HB2 := Lib.hid (HB1.out.trans (hb.mono HB1.out.size))
        clear hb
        go_wp2
        go_ret
        exact ⟨rfl, HB2.out⟩
    · have d0 : decide (60 < (n0 : Int)) = true := decide_eq_true (by omega)
      have e0 : decide (60 < n0) = true := decide_eq_true (by omega)
      clear hc
      go_enter Try.func9, Try.ntmps9
      go_wp2_with fail
      refine (HAW.out _).mono ?_
      rintro e w1 ⟨rfl, hb⟩
      have HB1 := Lib.hid hb
      clear hb
      go_wp2_with fail
      refine (HAW.out _).mono ?_
      rintro e w2 ⟨rfl, hb⟩
      have HB2 := Lib.hid (HB1.out.trans (hb.mono HB1.out.size))
      clear hb
      go_wp2
      go_ret
      exact ⟨rfl, HB2.out⟩
set_option maxRecDepth 100000 in
theorem contract (H : Type) (enc : TypeId × Value → H) (W : World) (base : Nat) (args : Array Value) (ds gs : List (DataW H)) (before : List MemPlace)
    (hval : ∀ (j : Nat) t v, Try.f9.params[j]? = some t → args[j]? = some v → Value.okWide Try.prog W .any base t v)
    (hW : DataW.Whole enc Try.prog Try.f9.params.toList Rows.formulaOrdersSpec.vars false W args.toList ds gs before) :
    Calls Try.prog 9 args W fun e W' => ∃ v, e = .returned v ∧ Rows.formulaOrdersSpec.post enc Try.prog Try.f9 false true false false W args v W' := by
  have hW' := hW
  obtain ⟨p, q, hA0, hV, rfl, hfz, hnd⟩ := hW
  have hA : DataW.TrodAll enc Try.prog W 0 (fun _ => true) true Try.f9.params.toList args.toList ds p := hA0
  rw [Try.params9] at hA hval
  obtain ⟨v0, vs0, d0, ds0, p0, q0, hargs, rfl, rfl, h0, r0⟩ := trodAll_cons hA
  obtain ⟨v1, vs1, d1, ds1, p1, q1, rfl, rfl, rfl, h1, r1⟩ := trodAll_cons r0
  obtain ⟨v2, vs2, d2, ds2, p2, q2, rfl, rfl, rfl, h2, r2⟩ := trodAll_cons r1
  obtain ⟨rfl, rfl, rfl⟩ := trodAll_nil r2
  obtain rfl : args = #[v0, v1, v2] := by cases args; simp_all
  obtain ⟨rfl, rfl⟩ := trodVars_none hV
  obtain ⟨A0, n0, c0, rfl⟩ := okWide_slice Try.underlying22 (hval 0 22 v0 rfl rfl)
  obtain ⟨z0, w0⟩ : ∃ l, NdRow W A0 n0 c0 l := by
    obtain ⟨fuel, hf⟩ := h0
    exact open_nodes hf
  have k0 := h0
  have lt0 : ∀ x ∈ p0, x.block < W.heap.size := by obtain ⟨m, hm⟩ := k0; exact DataW.trod_lt m _ _ _ hm
  obtain ⟨A1, n1, c1, rfl⟩ := okWide_slice Try.underlying22 (hval 1 22 v1 rfl rfl)
  obtain ⟨z1, w1⟩ : ∃ l, NdRow W A1 n1 c1 l := by
    obtain ⟨fuel, hf⟩ := h1
    exact open_nodes hf
  have k1 := h1
  have lt1 : ∀ x ∈ p1, x.block < W.heap.size := by obtain ⟨m, hm⟩ := k1; exact DataW.trod_lt m _ _ _ hm
  obtain ⟨A2, n2, c2, rfl⟩ := okWide_slice Try.underlying22 (hval 2 22 v2 rfl rfl)
  obtain ⟨z2, w2⟩ : ∃ l, NdRow W A2 n2 c2 l := by
    obtain ⟨fuel, hf⟩ := h2
    exact open_nodes hf
  have k2 := h2
  have lt2 : ∀ x ∈ p2, x.block < W.heap.size := by obtain ⟨m, hm⟩ := k2; exact DataW.trod_lt m _ _ _ hm
  clear hA0
  have hwalk : Calls Try.prog 9 #[.slice A0 n0 c0, .slice A1 n1 c1, .slice A2 n2 c2] W fun e w' => e = .returned (.bool true) ∧ Below W.heap.size W w' := walk z0 z1 z2 A0 A1 A2 n0 n1 n2 c0 c1 c2 W w0 w1 w2
  refine hwalk.mono fun e W' ⟨he, hg⟩ => ?_
  subst he
  exact ⟨_, rfl, _, _, _, [], _, [], hW', trodAll_mk1 (shut_bool Try.underlying4 _), (trodAll_cons_mk (Below.trod laidOut (by kernel_rfl) (of_decide_eq_true (by kernel_rfl)) k0 hg lt0) (trodAll_cons_mk (Below.trod laidOut (by kernel_rfl) (of_decide_eq_true (by kernel_rfl)) k1 hg lt1) (trodAll_cons_mk (Below.trod laidOut (by kernel_rfl) (of_decide_eq_true (by kernel_rfl)) k2 hg lt2) trodAll_mk0))), rfl, hg.frame _, fun h => by cases h⟩
theorem reads (os : Os) {H : Type} (enc : TypeId × Value → H) : ∃ places, DataW.whole enc Try.prog ((laidW os).forCall (fun _ _ => 0) ⟨#[], #[.slice none 0 0, .slice none 0 0, .slice none 0 0], []⟩).memory Try.f9.params.toList Rows.formulaOrdersSpec.vars false #[Value.slice none 0 0, Value.slice none 0 0, Value.slice none 0 0].toList 8 = some ([.nil, .nil, .nil], [], places) :=
  ⟨[], by kernel_rfl⟩
set_option maxRecDepth 100000 in
theorem lifted (os : Os) (started : os.Started) (H : Type) (enc : TypeId × Value → H) (F : Stop.Interp) :
    ReturnsInHanded {} Try.checked os 9 .any ((OpenSpec.ofChange Rows.formulaOrdersSpec).preRow enc Try.prog Try.f9 Rows.formulaOrdersRow.domain false Rows.formulaOrdersRow.laid) (((OpenSpec.ofChange Rows.formulaOrdersSpec).at F).post enc Try.prog Try.f9 false true false false) := by
  obtain ⟨places, hx⟩ := reads os enc
  refine returnsInHanded_of_row (C := Try.checked) (s := OpenSpec.ofChange Rows.formulaOrdersSpec) own started (by kernel_rfl) Try.func9
    (witness_row_at (enc := enc) (C := Try.checked) false (laidW os) #[.slice none 0 0, .slice none 0 0, .slice none 0 0] (laidW_os os) (vars_ok os _) (heap_ok os _) (by kernel_rfl)
      (OpenSpec.preRow_of_cond 8 hx (by kernel_rfl) (fun k hk => by cases hk) (by kernel_rfl) (laid_met os _))) ?_
  intro W base args ds gs before hval hW _ _ _ _ _ _
  exact contract H enc W base args ds gs before hval hW
theorem said : Rows.FormulaOrdersSaid :=
  OpenClaim.holds_of_cond 9 Try.f9 rfl rfl rfl rfl rfl rfl rfl ⟨rfl, rfl, rfl, rfl, rfl⟩ rfl rfl rfl rfl rfl (by kernel_rfl) Try.func9 (by kernel_rfl)
    (of_decide_eq_true (by kernel_rfl)) (by unfold Func.isWrapper; first | (rw [if_pos (by decide +kernel)]; kernel_rfl) | (rw [if_neg (by decide +kernel)]; exact ⟨rfl, rfl⟩))
    (fun os started H enc _ F => by rw [OpenClaim.pre_eq_preRow]; exact lifted os started H enc F)
#print axioms said
end Go.Proofs.Ytppkmapmpejhiaa.formulaOrders
